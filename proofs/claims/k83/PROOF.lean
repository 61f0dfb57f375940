import PyProof.Rows.All
import Wide.All
import OpenK.KLine
import OpenK.KOwn
import KE.RegKIsAll
import KE.RegKTryMore
import KE.IntText
import KE.IntTextLaws
import KE.KIntText
import KE.KDictList
import Wide.FinOn
import Lean
import PyProof.EqAt
import PyProof.EqKinds
import PyProof.TupleCall
import PySem.Challenge.RW_forestread_k83_desk_deeds
set_option Elab.async false
set_option linter.all false
set_option maxRecDepth 100000
inductive PySem.W.Fast|tw9893626312668464076|tw16854166990842421357|tw8818324411906406184|tw13878221002796061650|tw14251319031223176838|tw11872131345367183464|tw11238225632344246813|tw16750484308237401475|tw5557780379951340096|tw6677922374671384741|tw13177352165628123132|tw6840370032035991090|tw3889781212973201302|tw947723316665764609|tw2775799147592233197|tw16177071209054155099|tw8388449045009432389|tw827116162923179591|tw9610660676404922753|tw6433380287557697570|tw1957591733150311954|tw799746860180730782|tw12095124171187022613|tw9920356378354465123|tw9118718104863217956|tw1606563688478966894|tw1615144106270138675|tw8951480572200782966|tw15228875947650129688|tw14284100471998259259|tw7688072899295708056|tw17232253348238094392|tw4516458347053178621|tw3183782839963247538|tw15256014624571569192|tw8171936083716796004|tw2831299001119748057|tw11896926959503086522|tw17294705866348250980|tw4698628601319669419|tw9398274321660834672|tw10215058966691536414|tw12571942431839030898|tw13432050300781380654|tw2254799110570804411|tw2630664125125455594|tw17353485342692283198|tw7502352623348660314|tw15157614704982337258|tw6603446774834979233|tw11599022797165679324|tw776222558691536140|tw15407983513845759066|tw5060740931612638793|tw14267447151550026091|tw4945271370760419005|tw14441995225646439669|tw735829305799974225|tw9668328278641078195|tw12934019828710135162|tw12900595865111707092|tw14834901913163432465|tw16447002129205166968|tw3232389352057530601|tw8718352029403367383|tw15101332883155939709|tw6787533184153885507|tw12848878497823714444|tw6208530541122281670|tw15569512922912110736|tw6449454118966236985|tw4003168942806819565|tw12194011450696717746|tw9968436886124727720|tw14164402316947282875|tw11577290234008389484|tw17790696905598063247|tw7351215257958693365|tw17392144041339907451|tw16121740864287260789|tw4535752630573377659|tw17457877307307302906|tw9413701338806849084|tw11518975020112399945|tw4665187573649254708|tw9057164329455877757|tw2989626277477208985|tw14879638138132105006|tw17550089054671464237|tw10970107233889802731|tw429642380084320143|tw902830074488564153|tw17232628254630784418|tw3551811735478285973|tw2852287047192140054|tw2699715500718596749|tw16822893224258328103|tw8903906690239241638|tw13478918697888011101|tw14609139017328757119|tw15921681400989980801|tw18204707290781834833|tw7110847637811669538|tw16796824009203735803|tw10760292839206097377|tw16271649224806551152|tw15656171415117573081|tw9447098900406538376|tw12264601567229637423|tw4259684865104131281|tw17385149780015651726|tw14957143612101292805|tw13915442838899786592|tw11081550592984037418|tw2389510629017138478|tw2076080935751034009|tw11445972980181406583|tw6744690428302756136|tw16590670612835681787|tw4624994833197513475|tw4947863028617735465|tw16670866066227453969|tw15702074709136803940|tw12047700418802464971|tw13804181663383984504|tw4948699845759637916|tw16447166434862510028|tw15260244690518128956|tw6513909216798905683|tw3498476384848556310|tw4404461584665914670|tw8255993866638085232|tw11009681480142472566|tw18330663009468891534|tw4763865166362279441|tw6145379264384577222|tw8427035132403865538|tw5488821893507387619|tw8706683395889420933|tw16548595747213525683|tw13656849735809954645|tw5929097079358507863|tw9081600438697008528|tw13559512775909607656|tw12766900881529325612|tw1927590561644740421|tw4069264646202820784|tw11689227962873277858|tw12990448561053305236|tw12899131770665287153|tw3129882348137115475|tw283825385546662972|tw16987958330949496718|tw2473359316018324696|tw5516358572308509196|tw16131416093447773193|tw8351023429652105424|tw5622724624268300617|tw6326700721425588906|tw16362704182175013786|tw15905846687392706538|tw1458248992968221956|tw13456225903340286008|tw4612135158307179881|tw7786519208856080189|tw5729335407955344225|tw2889119917031119696|tw724649621418874591|tw7368940824667816357|tw9794181925236142004|tw2852124771828464602|tw11504317246670213646|tw9523537624215154740|tw4794382001893270356|tw3324389825534737698|tw4486889557705976409|tw5415521019861749962|tw9734294395529432187|tw5944520923106761017|tw727365170550833784|tw1020426757378139572|tw15849387951043314224|tw18411545871541564859|tw16867036331747772377|tw11969365629796393679|tw9140302601180330574|tw18066515871676090976|tw17467442087352429638|tw16658230744473043879|tw4566805853345106614|tw7321350219030201366|tw4995761616526696525|tw5248120442966151263|tw16618585384230287820|tw9857905559116720665|tw9329707792927890459|tw7187235386284616595|tw7557148302353232346|tw4939906895726765806|tw2065201356401200856|tw12672502742824903384|tw7317033710162183391|tw5303886151653719176|tw2716611146971115670|tw10485292979439943711|tw7357569375537971804|tw12283605445883700036|tw8199461270872157631|tw7325341815366585519|tw2795588139777777033|tw14242207661828430358|tw1401199099116751672|tw8024133949714329316|tw8834461498258639755|tw2795879519811984872|tw2478691793149439919|tw1274285949709056441|tw4773405479800580313|tw6061741338185512228|tw134768199980935188|tw11379262552519137625|tw15916078168616946095|tw8890751740776172268|tw15374854776874208555|tw4483200574736550655|tw11808938349842291918|tw2645984908527039243|tw657964072018686462|tw4647241249547495360|tw7729883682258751229|tw12786321944216700731|tw3039188358714123596|tw18174900110668652269|tw17052615133676102712|tw577428986221319851|tw16100424441373235276|tw18128441283520175560|tw11160794292207484640|tw14200306967961504622|tw16406584897542171007|tw6541983506545078737|tw3331915804831975466|tw15910505636890043644|tw18262962787764599623|tw7376966392587283641|tw4849076777718807551|tw2306299115452647938|tw11527339284247470747|tw16569295975375999676|tw11719656715171409540|tw13080705804976136721|tw8604488412925840017|tw8150741478258611564|tw4442887058815734078|tw6454544902718009978|tw12456094408535513853|tw17828324080065816215|tw4905466280121767671|tw4991471459737406905|tw5682827121350931424|tw17497415468164135295|tw4686548872152698994|tw6520175112196266268|tw16509554765926004364|tw10185329583062611011|tw6286127105413276653|tw8173850786409534868|tw5156302611283118151|tw12087698456023815727|tw1033130684505598804|tw4856923822457448491|tw15715716948165022198|tw1672401243812355379|tw9685831681817350052|tw1439886007741191842|tw13791770830109571416|tw7010052413905439826|tw14729851534299629732|tw5326473411729306141|tw2505750307873279505|tw18109702220026249371|tw6538576715390864693|tw11984523627187228322|tw13074816099779909522|tw17203930876189560827|tw14290742396379023571|tw3249793203244398594|tw11334647946699785512|tw10247457727936286130|tw4104433579288850627|tw13621995865005556377|tw1526244384457876590|tw7183772792502282535|tw10797212455636941149|tw14746550085553843868|tw3083719414243341891|tw15593923674084353839|tw6173653612622609182|tw11255155727796467615|tw10201503150614041159|tw7612366295356849052|tw16300451115118362747|tw4792570038141228271|tw7639594128124819733|tw3043447589017536120|tw3219993587754165708|tw5147558653668742926|tw14386365797972175419|tw3763269581771246249|tw1179832948001154082|tw7014320073229911587|tw3631170109962823833|tw9135337241968170730|tw8110059295664555566|tw2870005330882979729|tw122353481601301135|tw17394965354926797284|tw5968226522892019427|tw10050788793602970751|tw5763507386469633338|tw14049384805040316610|tw10278988335301153256|tw18066055062299807413|tw4645206998745895767|tw9950706777934218719|tw9292782578561788967|tw11813658493900815194|tw7146851713139138794|tw1437073033337969008|tw16318165010457782722|tw8408900023194632|tw1071367436464683604|tw3254277207307258186|tw17915821105648291470|tw17015358965250775321|tw10178999409086460932|tw10997118301006764054|tw6482243735951185529|tw2299523614436554450|tw8821987852688831828|tw10008280214667607213|tw4736395848314560743|tw17372815335706888364|tw4940104895912579190|tw13479252365538901242|tw157719922133062844|tw1690486288590722837|tw1318928307708984327|tw17211019200236695703|tw419577323642207317|tw5832867662465030540|tw9351911497618441718|tw12026501933462985131|tw7950693557599793720|tw2704775490638091594|tw13841320272173010110|tw7025098131746286736|tw5981584034693752537|tw11858811830382421868|tw130621847936891388|tw9188162775433355211|tw551436190415990031|tw588395075806040026|tw16029857204207225445|tw6556916879597401115|tw9834449659873684032|tw5116081941642834515|tw13562528558510925373|tw9859184018447277922|tw14359767436500732233|tw10511051976100285029|tw5149252720269581406|tw13254660441923116118|tw17125185364797576061|tw3753981091004192022|tw1749807645318248374|tw8793785504542828969|tw7195867344395527747|tw16201004118881405391|tw12760457415884535008|tw16018707962107676303|tw9765232927749292767|tw17180793032201969436|tw6624175880759239673|tw11369263130794104590|tw4655422191696734310|tw5853396413272159519|tw5008237743832187005|tw18097953338639104336|tw16477054488462084649|tw14813353759516221949|tw15736893773835833657|tw7268586502152720727|tw10602429619196320436|tw2947370041916089674|tw3795816903373435783|tw3644461017481229347|tw10274503142542503647|tw828405514262099654|tw17024337999848637422|tw6769045124709012285|tw12983221984384392287|tw1317779956612388281|tw15336293727807253194|tw15471467613542470893|tw10872680557757045347|tw3740657956206499634|tw14357446536590812441|tw5582590671221239942|tw2805273182703338741|tw9606107128799854609|tw14861318413998021987|tw5217749059239196317|tw14565478853465415736|tw11913775394233418573|tw13962150521158347469|tw14964135035885323518|tw7240235402012790317|tw44717812102766173|tw17262371334388364315|tw14325846392902596158|tw16606868073433221574|tw7624772315419207615|tw11732086944493388002|tw11177375070775734862|tw2672024497362573334|tw13303414439968017300|tw8170552624524143700|tw13240285210797012129|tw16636763124267178365|tw11201221058166561637|tw15231376059894995259|tw10200060865396232675|tw13768294058398948227|tw13846253179634557297|tw3737163524898282194|tw9700107571779508115|tw4285311367414073614|tw14940561989690387812|tw11483432926884234173|tw16186322462091255067|tw7410771386238658897|tw12086273289069031141|tw7956013308545524209|tw15584869003893673489|tw11469170381671521811|tw4714398244849970560|tw12837709278494400862|tw1737213230191640638|tw15108853653709158426|tw3120961826299341725|tw7521391479162118760|tw7433588553828846877|tw2064316835746209868|tw6499971894653359679|tw8507077455171091062|tw5651414619841567267|tw18277794777618213899|tw9410151817776574122|tw18112573464679999686|tw1145865282581946168|tw8108731566082358477|tw11464118670902615708|tw1903831309521382812|tw4306357834077015311|tw4712972667678443825|tw11210742681220671038|tw15251042864552378645|tw8073306341199003817|tw9857482860926075409|tw611510928202113728|tw14889131288993503194|tw6813285803153945128|tw18165272229870237907|tw17416621820597166607|tw12621550466023387878|tw2740396808428156473|tw13136767612008059741|tw12023601307348447047|tw15856203886168891930|tw14723289815050090584|tw8816366490196762509
section
open PySem PySem.W PyProof.Rows
set_option maxHeartbeats 0 in
open_top hd83 for PySem.Challenge.rw_forestread_k83_desk_deeds
end
theorem U{α:Sort u}{a:α}:a=a:=rfl
abbrev YI6:=@List.length_map
abbrev YI7:=@decide_eq_true
abbrev YI8:=@decide_eq_false
abbrev YI9:=@PySem.Heap.get?_push_of_some
abbrev YJA:=@Bool.and_eq_true
abbrev YJB:=@Nat.le_refl
abbrev YJC:=@List.getElem?_eq_getElem
abbrev YJD:=@List.mem_cons_of_mem
abbrev YJE:=@PyProof.Rows.Boot.«len»
abbrev YJF:=@List.mem_of_getElem?
abbrev YJG:=@List.getElem?_map
abbrev YJH:=@of_decide_eq_true
abbrev YJI:=@List.mem_cons_self
abbrev YJJ:=@PySem.Heap.lt_size
abbrev YJK:=@List.mem_cons
abbrev YJL:=@List.length_append
abbrev YJM:=@List.mem_map
abbrev YJN:=@List.size_toArray
abbrev YJO:=@List.map_cons
abbrev YJP:=@List.all_eq_true
abbrev YJQ:=@Nat.lt_of_lt_of_le
abbrev YJR:=@Nat.le_trans
abbrev YJS:=@PySem.Heap.get?_push_size
abbrev YJT:=@Bool.false_ne_true
abbrev YJU:=@PySem.wpAny_bind
abbrev YJV:=@PyProof.Rows.Boot.«isinstance»
abbrev YJW:=@Nat.zero_lt_one
abbrev YJX:=@List.mem_append_right
abbrev YJY:=@List.length_cons
abbrev YJZ:=@PyProof.Rows.Boot.«str»
abbrev YJa:=@List.mem_singleton
abbrev YJb:=@decide_eq_true_eq
abbrev YJc:=@Nat.ne_of_lt
abbrev YJd:=@PySem.F.plainAttrs_str
abbrev YJe:=@List.getElem?_eq_some_iff
abbrev YJf:=@Option.some.inj
abbrev YJg:=@List.mem_append
abbrev YJh:=@Nat.zero_le
abbrev YJi:=@PySem.F.plainAttrs_list
abbrev YJj:=@List.map_append
abbrev YJk:=@Array.length_toList
abbrev YJl:=@List.length_set
abbrev YJm:=@PySem.wpAny_pure
abbrev YJn:=@Int.le_trans
abbrev YJo:=@List.nodup_cons
abbrev YJp:=@List.getElem?_eq_none
abbrev YJq:=@List.cons_lt_cons_iff
abbrev YJr:=@PyProof.Rows.Boot.«int»
abbrev YJs:=@PyProof.Rows.Boot.«all»
abbrev YJt:=@List.filter_cons
abbrev YJu:=@List.mem_iff_getElem
abbrev YJv:=@Option.map_eq_some_iff
abbrev YJw:=@Nat.lt_irrefl
abbrev YJx:=@PySem.F.type_str_join
abbrev YJy:=@PySem.F.slot_str_join
abbrev YJz:=@List.map_map
abbrev YJ0:=@Int.mul_le_mul_of_nonneg_right
abbrev YJ1:=@Array.getElem?_toList
abbrev YJ2:=@congrArg
abbrev YJ3:=@PySem.F.type_list_append
abbrev YJ4:=@PySem.F.slot_list_append
abbrev YJ5:=@List.not_mem_nil
abbrev YJ6:=@List.length_take
abbrev YJ7:=@PyProof.Rows.Boot.«tuple»
abbrev YJ8:=@List.map_congr_left
abbrev YJ9:=@Bool.eq_iff_iff
abbrev YKA:=@List.take_of_length_le
abbrev YKB:=@Int.emod_lt_of_pos
abbrev YKC:=@Option.isSome_map
abbrev YKD:=@Nat.lt_succ_iff_lt_or_eq
abbrev YKE:=@List.take_add_one
abbrev YKF:=@List.find?_cons
abbrev YKG:=@List.mem_range
abbrev YKH:=@List.getElem?_set_self
abbrev YKI:=@PySem.F.type_str_startswith
abbrev YKJ:=@PySem.F.slot_str_startswith
abbrev YKK:=@List.mem_filter
abbrev YKL:=@Int.emod_nonneg
abbrev YKM:=@PyProof.Rows.Boot.«list»
abbrev YKN:=@List.getElem?_eq_none_iff
abbrev YKO:=@List.getElem?_append_left
abbrev YKP:=@Nat.le_succ
abbrev YKQ:=@List.filterMap_cons
abbrev YKR:=@Int.le_refl
abbrev YKS:=@Nat.not_lt_zero
abbrev YKT:=@List.sum_cons
abbrev YKU:=@List.mem_filterMap
abbrev YKV:=@Int.lt_of_le_of_lt
abbrev YKW:=@Bool.or_eq_true
abbrev YKX:=@Nat.mul_one
abbrev YKY:=@List.nodup_nil
abbrev YKZ:=@PySem.Heap.size_push
namespace L2
open PySem PySem.Spec PyProof.Rows
abbrev Key:=Sum Int Str
def YCI:Key->Value->Bool
 |.inl k,v=>Value.isInt k v
 |.inr x,v=>Value.isStrOf x v
def keyH (w:World):Key->Int
 |.inl k=>hashInt k
 |.inr x=>hashStr w x
theorem Y3:∀{k:Key}{v:Value},YCI k v=true->(∃i t,k=Sum.inl i/\v=Value.int i t)\/(∃x t,k=Sum.inr x/\v=Value.str x t)
 |.inl i,v,h=>by
  obtain⟨t,e⟩:=Value.isInt_shape (k:=i) (v:=v) h;exact .inl ⟨i,t,U,e⟩
 |.inr x,v,h=>by
  obtain⟨t,e⟩:=Value.isStrOf_shape (x:=x) (v:=v) h;exact .inr ⟨x,t,U,e⟩
theorem YHA (i:Int) (t:Tok):YCI (.inl i) (.int i t)=true:=by simp[YCI,Value.isInt]
theorem YA3 (x:Str) (t:Tok):YCI (.inr x) (.str x t)=true:=by simp[YCI,Value.isStrOf]
theorem key_ll (a b:Int):decide ((Sum.inl a:Key)=Sum.inl b)=(a == b):=by
 by_cases e:a=b
 ·subst e;simp
 ·have h:¬(Sum.inl a:Key)=Sum.inl b:=λq=>e (Sum.inl.inj q)
  rw[YI8 h];exact(beq_eq_false_iff_ne.mpr e).symm
theorem key_rr (a b:Str):decide ((Sum.inr a:Key)=Sum.inr b)=decide (a=b):=by
 by_cases e:a=b
 ·subst e;simp
 ·have h:¬(Sum.inr a:Key)=Sum.inr b:=λq=>e (Sum.inr.inj q)
  rw[YI8 h,YI8 e]
theorem key_lr (a:Int) (b:Str):decide ((Sum.inl a:Key)=Sum.inr b)=false:=YI8 nofun
theorem key_rl (a:Str) (b:Int):decide ((Sum.inr a:Key)=Sum.inl b)=false:=YI8 nofun
def Y0 (prog:Program) (w:World):PySem.KeyKind prog w Key where
 is:=YCI
 hash:=keyH w
 inj:=λv a b ha hb=>by
  rcases Y3 ha with ⟨i,t,rfl,rfl⟩ |⟨x,t,rfl,rfl⟩
  ·rcases Y3 hb with ⟨j,u,rfl,e⟩ |⟨y,u,rfl,e⟩
   ·injection e with e1 _;rw[e1]
   ·exact nomatch e
  ·rcases Y3 hb with ⟨j,u,rfl,e⟩ |⟨y,u,rfl,e⟩
   ·exact nomatch e
   ·injection e with e1 _;rw[e1]
 byValue:=λk v h=>by
  rcases Y3 h with ⟨i,t,rfl,rfl⟩ |⟨x,t,rfl,rfl⟩ <;> rfl
 pyHash:=λhv h=>by
  rcases Y3 hv with ⟨i,t,rfl,rfl⟩ |⟨x,t,rfl,rfl⟩
  ·exact wpAny_pyHash_int h
  ·exact wpAny_pyHash_str h
 eqBool:=λhu hv h=>by
  rcases Y3 hu with ⟨i,t,rfl,rfl⟩ |⟨x,t,rfl,rfl⟩
  ·rcases Y3 hv with ⟨j,u,rfl,rfl⟩ |⟨y,u,rfl,rfl⟩
   ·rw[key_ll]at h;exact wpAny_eqBool_int h
   ·rw[key_lr]at h;exact SeqAt.EqAt.int_str i t y u _ _ _ _ h
  ·rcases Y3 hv with ⟨j,u,rfl,rfl⟩ |⟨y,u,rfl,rfl⟩
   ·rw[key_rl]at h;exact SeqAt.EqAt.str_int x t j u _ _ _ _ h
   ·rw[key_rr]at h;exact wpAny_eqBool_str h
 «strs»:=λk x t v h=>by
  rcases Y3 h with ⟨i,u,rfl,e⟩ |⟨y,u,rfl,e⟩
  ·exact nomatch e
  ·injection e with e1 _
   subst e1;cases v <;> rfl
theorem YEr (prog:Program) (w:World) (i:Int) (t:Tok):(Y0 prog w).is (.inl i) (.int i t)=true:=YHA i t
theorem YEs (prog:Program) (w:World) (x:Str) (t:Tok):(Y0 prog w).is (.inr x) (.str x t)=true:=YA3 x t
end L2
namespace L2
open PySem PySem.Spec PyProof.Rows
inductive V where
 |non |bl (b:Bool) |int (i:Int) |str (x:Str) |byt (b:Array UInt8) |flt (b:UInt64) |ref (a:Addr) |ty (n:String)
 deriving DecidableEq
def Ym:V->Value->Prop
 |.non,u=>u=Value.none
 |.bl b,u=>u=Value.bool b
 |.int i,u=>∃t,u=Value.int i t
 |.str x,u=>∃t,u=Value.str x t
 |.byt b,u=>∃t,u=Value.bytes b t
 |.flt b,u=>∃t,u=Value.float b t
 |.ref a,u=>u=Value.ref a
 |.ty n,u=>u=Value.type n
abbrev Yi:List V->List Value->Prop:=Paired Ym
theorem Yi.length {xs:List V}{us:List Value} (r:Yi xs us):xs.length=us.length:=Paired.length r
theorem Yi.get:∀{xs:List V}{us:List Value}{i:Nat}{x:V},Yi xs us->xs[i]?=some x->∃u,us[i]?=some u/\Ym x u
 |_,_,_,_,.nil,e=>by simp at e
 |_,_,0,_,.cons r _,e=>by simp at e;subst e;exact⟨_,U,r⟩
 |_,_,i + 1,x,.cons _ t,e=>by
  obtain⟨u,h1,h2⟩:=Yi.get (i:=i) (x:=x) t (by simpa using e);exact⟨u,by simpa using h1,h2⟩
theorem Yi.set {x:V}{u:Value} (r:Ym x u):∀{xs:List V}{us:List Value} (i:Nat),Yi xs us->Yi (xs.set i x) (us.set i u)
 |_,_,_,.nil=>.nil
 |_,_,0,.cons _ t=>.cons r t
 |_,_,i + 1,.cons q t=>.cons q (Yi.set r i t)
theorem Yi.append:∀{xs ys:List V}{us ws:List Value},Yi xs us->Yi ys ws->Yi (xs ++ ys) (us ++ ws)
 |_,_,_,_,.nil,s=>s
 |_,_,_,_,.cons r t,s=>.cons r (Yi.append t s)
theorem Yi.take:∀{xs:List V}{us:List Value} (n:Nat),Yi xs us->Yi (xs.take n) (us.take n)
 |_,_,0,_=>.nil
 |_,_,_ + 1,.nil=>.nil
 |_,_,n + 1,.cons r t=>.cons r (Yi.take n t)
theorem Yi.drop:∀{xs:List V}{us:List Value} (n:Nat),Yi xs us->Yi (xs.drop n) (us.drop n)
 |_,_,0,r=>r
 |_,_,_ + 1,.nil=>.nil
 |_,_,n + 1,.cons _ t=>Yi.drop n t
theorem Yi.none_of:∀{xs:List V}{us:List Value}{i:Nat},Yi xs us->xs[i]?=none->us[i]?=none:=λ{xs us i} r e=>by
 have h1:=r.length;have h2:xs.length<=i:=YKN.mp e;exact YKN.mpr (by omega)
def XG:Option V->Option Value->Prop
 |some v,some u=>Ym v u
 |none,none=>True
 |_,_=>False
def KV {κ:Type}:List (κ×V)->List (κ×Value)->Prop:=Paired λ(p:κ×V) (q:κ×Value)=>p.1=q.1/\Ym p.2 q.2
def kV:Key->V
 |.inl i=>.int i
 |.inr x=>.str x
inductive HO where
 |lst (xs:List V)
 |tup (xs:List V)
 |dK (kvs:List (Key×V)) |dT (kvs:List (List Key×V))
 |set (S:Int->Bool) (n:Nat)
 |ins (C dx:Addr) (fs:List (Str×V))
 |own (x:Addr)
 |xd (fs:List (Str×V))
 |met (f x:Addr)
 |rng (lo hi:Int)
 |frz (o:Obj) (u:HO)
 |tbl (ps:Array Value)
 |ext (φ:Heap->Prop)
abbrev Hp:=Addr->Option HO
def upd (H:Hp) (a:Addr) (o:HO):Hp:=λb=>if b=a then some o else H b
theorem YD {H:Hp}{a:Addr}{o:HO}:upd H a o a=some o:=by unfold upd;rw[if_pos rfl]
theorem YN {H:Hp}{a b:Addr}{o:HO} (h:b≠a):upd H a o b=H b:=by unfold upd;rw[if_neg h]
theorem X3 {H:Hp}{a:Addr}{o u:HO}:upd (upd H a o) a u=upd H a u:=by
 funext b;unfold upd;split <;> rfl
theorem ne_of {H:Hp}{a b:Addr}{o u:HO} (h:H a=some o) (h':H b=some u) (d:o≠u):a≠b:=by
 intro e;subst e;rw[h]at h';exact d (YJf h')
theorem YV {H:Hp}{a b:Addr}{o:HO} (h:H a=some o) (h':H b=none):a≠b:=by
 intro e;subst e;rw[h]at h';cases h'
section
variable (P:Program) (w:World)
def Yy (H:Hp) (h:Heap) (a:Addr):HO->Prop
 |.lst xs=>xs.length<=sizeLine/\∃(its:List Value) (n:Nat),Yi xs its/\h.get? a=some { cls:=.type "list",data:=.seq its.toArray n }
 |.tup xs=>xs.length<=sizeLine/\∃its:List Value,Yi xs its/\IsTup h a its.toArray
 |.dK kvs=>kvs.length<=sizeLine/\(a == sysModules)=false/\∃vs,KV kvs vs/\h.DictOf (Y0 P w) a vs
 |.dT kvs=>kvs.length<=sizeLine/\(a == sysModules)=false/\∃xs:List (List Key×Addr×Value),
   Paired (λ(p:List Key×V) (q:List Key×Addr×Value)=>p.1=q.1/\H q.2.1=some (.tup (p.1.map kV))/\Ym p.2 q.2.2) kvs xs/\
   ∃o es ep,h.get? a=some o/\o.ExactDict/\o.data=.dict es ep/\es.toList=xs.map (entryOfKey (tupleKind (Y0 P w)))/\(xs.map (·.1)).Nodup
 |.set S n=>h.SetOf (intKind P w) a S n
 |.ins C dx fs=>H dx=some (.own a)/\fs.length<=1000/\dx≠a/\h.get? a=some (PySem.W.instObj C dx)/\
   ∃mA,h.Ns1 dx mA/\(∀f,XG (fs.lookup f) (mA f))/\PySem.Within mA (fs.map (·.1))
 |.own _=>∃o,h.get? a=some o
 |.xd fs=>∃mA,h.Ns1 a mA/\∀f,XG (fs.lookup f) (mA f)
 |.rng lo hi=>∃t u v,h.get? a=some { cls:=.type "range",data:=.fields #[.int lo t,.int hi u,.int 1 v] }
 |.frz o u=>h.get? a=some o/\Yy H h a u
 |.tbl ps=>h.get? a=some { cls:=.none,data:=.fields ps }
 |.met f x=>h.get? a=some (PySem.W.methodObj (.ref f) (.ref x))
 |.ext φ=>φ h/\(∃o,h.get? a=some o)/\∀h1 h2:Heap,φ h1->(∀o,h1.get? a=some o->h2.get? a=some o)->φ h2
def HOk (H:Hp) (h:Heap):Prop:=∀a o,H a=some o->Yy P w H h a o
end
section
variable {P:Program}{w:World}{H H':Hp}{h h':Heap}{a:Addr}{o:HO}
theorem Yy.lt (x:Yy P w H h a o):a < h.objs.size:=by
 cases o with
 |lst xs=>obtain⟨_,_,_,_,e⟩:=x;exact YJJ e
 |tup xs=>obtain⟨_,_,_,p⟩:=x;exact p.lt
 |dK kvs=>obtain⟨_,_,_,_,o,_,_,e,_⟩:=x;exact YJJ e
 |dT kvs=>obtain⟨_,_,_,_,o,_,_,e,_⟩:=x;exact YJJ e
 |set S n=>obtain⟨o,_,_,_,e,_⟩:=x;exact YJJ e
 |ins C dx fs=>obtain⟨_,_,_,e,_⟩:=x;exact YJJ e
 |own y=>obtain⟨_,e⟩:=x;exact YJJ e
 |xd fs=>obtain⟨_,⟨_,_,_,e,_⟩,_⟩:=x;exact YJJ e
 |rng lo hi=>obtain⟨_,_,_,e⟩:=x;exact YJJ e
 |frz ob u=>obtain⟨e,_⟩:=x;exact YJJ e
 |tbl ps=>exact YJJ (show h.get? a=some _ from x)
 |met f y=>exact YJJ (show h.get? a=some _ from x)
 |ext φ=>obtain⟨_,⟨_,e⟩,_⟩:=x;exact YJJ e
theorem Paired.mapP {α β:Type}{F G:α->β->Prop}:∀{l₁:List α}{l₂:List β},Paired F l₁ l₂->(∀a b,F a b->G a b)->Paired G l₁ l₂
 |_,_,.nil,_=>.nil
 |_,_,.cons r t,f=>.cons (f _ _ r) (Paired.mapP t f)
theorem Yy.stay (x:Yy P w H h a o) (k:∀b u,(b=a\/H b=some (.own a))->h.get? b=some u->h'.get? b=some u)
  (ho:∀b,H b=some (.own a)->H' b=some (.own a)) (ht:∀b xs,H b=some (.tup xs)->H' b=some (.tup xs)):Yy P w H' h' a o:=by
 induction o with
 |lst xs=>obtain⟨z,its,n,r,e⟩:=x;exact⟨z,its,n,r,k _ _ (.inl rfl) e⟩
 |tup xs=>obtain⟨z,its,r,ob,e,c⟩:=x;exact⟨z,its,r,ob,k _ _ (.inl rfl) e,c⟩
 |dK kvs=>obtain⟨z,y,vs,r,ob,es,ep,e,c⟩:=x;exact⟨z,y,vs,r,ob,es,ep,k _ _ (.inl rfl) e,c⟩
 |dT kvs=>
  obtain⟨z,y,xs,r,ob,es,ep,e,c⟩:=x;exact⟨z,y,xs,Paired.mapP r λp q z=>⟨z.1,ht _ _ z.2.1,z.2.2⟩,ob,es,ep,k _ _ (.inl rfl) e,c⟩
 |set S n=>obtain⟨ob,es,ep,t,e,c⟩:=x;exact⟨ob,es,ep,t,k _ _ (.inl rfl) e,c⟩
 |ins C dx fs=>
  obtain⟨d,z,ne,e,mA,⟨od,es,ep,e2,c⟩,r⟩:=x;exact⟨ho _ d,z,ne,k _ _ (.inl rfl) e,mA,⟨od,es,ep,k _ _ (.inr d) e2,c⟩,r⟩
 |own y=>obtain⟨ob,e⟩:=x;exact⟨ob,k _ _ (.inl rfl) e⟩
 |xd fs=>obtain⟨mA,⟨od,es,ep,e,c⟩,r⟩:=x;exact⟨mA,⟨od,es,ep,k _ _ (.inl rfl) e,c⟩,r⟩
 |rng lo hi=>obtain⟨t,u,v,e⟩:=x;exact⟨t,u,v,k _ _ (.inl rfl) e⟩
 |frz ob u ih=>obtain⟨e,q⟩:=x;exact⟨k _ _ (.inl rfl) e,ih q⟩
 |tbl ps=>
  have e:h.get? a=some { cls:=.none,data:=.fields ps }:=x;show h'.get? a=some { cls:=.none,data:=.fields ps };exact k a _ (.inl rfl) e
 |met f y=>
  have e:h.get? a=some (PySem.W.methodObj (.ref f) (.ref y)):=x;show h'.get? a=some (PySem.W.methodObj (.ref f) (.ref y));exact k a _ (.inl rfl) e
 |ext φ=>obtain⟨p,⟨o,e⟩,st⟩:=x;exact⟨st _ _ p λo q=>k _ _ (.inl rfl) q,⟨o,k _ _ (.inl rfl) e⟩,st⟩
theorem HOk.lt (x:HOk P w H h) (e:H a=some o):a < h.objs.size:=(x a o e).lt
theorem HOk.fresh (x:HOk P w H h) (e:h.objs.size<=a):H a=none:=by
 cases q:H a with
 |none=>rfl
 |some u=>exact absurd (YJQ (x.lt q) e) (YJw _)
theorem HOk.kept (x:HOk P w H h) (k:∀b u,h.get? b=some u->h'.get? b=some u):HOk P w H h':=λa o e=>
 (x a o e).stay (λb u _ q=>k b u q) (λ_ q=>q) λ_ _ q=>q
theorem HOk.laid (x:HOk P w H h) (k:∀b u,h.get? b=some u->h'.get? b=some u) (hp:h.objs.size<=a) (new:Yy P w (upd H a o) h' a o):HOk P w (upd H a o) h':=λb u e=>by
 have hn:=x.fresh hp
 by_cases hb:b=a
 ·subst hb;rw[YD]at e;cases e;exact new
 ·rw[YN hb]at e;exact(x b u e).stay (λc v _ q=>k c v q) (λc q=>by rw[YN (YV q hn)];exact q) λc xs q=>by rw[YN (YV q hn)];exact q
end
def Rd (H:Hp) (a:Addr) (u:HO):Prop:=H a=some u\/∃o,H a=some (.frz o u)
theorem Rd.ok {P:Program}{w:World}{H:Hp}{h:Heap}{a:Addr}{u:HO} (r:Rd H a u) (x:HOk P w H h):Yy P w H h a u:=by
 rcases r with r |⟨o,r⟩
 ·exact x a u r
 ·obtain⟨_,q⟩:=x a _ r;exact q
def Mut:Option HO->Prop
 |some (.lst _)=>True
 |some (.dK _)=>True
 |some (.dT _)=>True
 |some (.set _ _)=>True
 |some (.ins _ _ _)=>True
 |some (.ext _)=>True
 |_=>False
section
variable {P:Program}{w:World}{H:Hp}{h h':Heap}{x e:Addr}{o':HO}
theorem HOk.write (ok:HOk P w H h) (mu:Mut (H x)) (he:e=x\/H e=some (.own x)) (k:∀b u,b≠e->h.get? b=some u->h'.get? b=some u) (rW:∃u,h'.get? e=some u)
  (new:Yy P w (upd H x o') h' x o'):HOk P w (upd H x o') h':=λb u q=>by
 have nown:∀c y,H c=some (.own y)->c≠x:=λc y r z=>by subst z;rw[r]at mu;exact mu
 have ntup:∀c xs,H c=some (.tup xs)->c≠x:=λc xs r z=>by subst z;rw[r]at mu;exact mu
 by_cases hb:b=x
 ·subst hb;rw[YD]at q;cases q;exact new
 ·rw[YN hb]at q
  by_cases hbe:b=e
  ·have q':H b=some (.own x):=by
    rcases he with z |z
    ·exact absurd (hbe.trans z) hb
    ·rw[hbe];exact z
   rw[q]at q';cases q';obtain⟨v,hv⟩:=rW;exact⟨v,by rw[hbe];exact hv⟩
  ·refine(ok b u q).stay (λc v hc r=>k c v ?_ r) (λc r=>by rw[YN (nown c b r)];exact r) λc xs r=>by rw[YN (ntup c xs r)];exact r
   rcases hc with rfl |hc
   ·exact hbe
   ·rintro rfl;rcases he with z |z
    ·exact nown c b hc z
    ·rw[hc]at z;cases z;exact hb rfl
end
structure Un (fs ex:List Addr) (H H':Hp) (h h':Heap):Prop where
 keep:∀b o,h.get? b=some o->H b=none->b∉fs->b∉ex->h'.get? b=some o
 slot:∀b o,h.get? b=some o->H b=none->b∈fs->b∉ex->∃sl,h'.get? b=some { o with slots:=sl }
 free:∀b o,h.get? b=some o->H b=none->b∉ex->H' b=none
 there:∀b o,h.get? b=some o->b∉ex->∃o',h'.get? b=some o'
 tups:∀b xs,H b=some (.tup xs)->H' b=some (.tup xs)
 frzs:∀b o u,H b=some (.frz o u)->H' b=some (.frz o u)
 tbls:∀b ps,H b=some (.tbl ps)->∃more,H' b=some (.tbl (ps ++ more))
section
variable {fs rY ex ex':List Addr}{H H1 H2:Hp}{h h1 h2 h':Heap}{a x e:Addr}{o:HO}
theorem Un.any (u:Un fs ex H H1 h h1) {b:Addr}{ob:Obj} (q:h.get? b=some ob) (n:H b=none) (hx:b∉ex):∃sl,h1.get? b=some { ob with slots:=sl }:=by
 by_cases hb:b∈fs
 ·exact u.slot b ob q n hb hx
 ·exact⟨ob.slots,u.keep b ob q n hb hx⟩
theorem Un.trans (a:Un fs ex H H1 h h1) (b:Un fs ex H1 H2 h1 h2):Un fs ex H H2 h h2 where
 keep:=λc ob q n hc hx=>b.keep c ob (a.keep c ob q n hc hx) (a.free c ob q n hx) hc hx
 slot:=λc ob q n hc hx=>by
  obtain⟨sl,e1⟩:=a.slot c ob q n hc hx;obtain⟨qO,e2⟩:=b.slot c _ e1 (a.free c ob q n hx) hc hx;exact⟨qO,e2⟩
 free:=λc ob q n hx=>by
  obtain⟨o',e1⟩:=a.there c ob q hx;exact b.free c o' e1 (a.free c ob q n hx) hx
 there:=λc ob q hx=>by
  obtain⟨o',e1⟩:=a.there c ob q hx;exact b.there c o' e1 hx
 tups:=λc xs q=>b.tups c xs (a.tups c xs q)
 frzs:=λc ob xs q=>b.frzs c ob xs (a.frzs c ob xs q)
 tbls:=λc ps q=>by
  obtain⟨m1,e1⟩:=a.tbls c ps q;obtain⟨m2,e2⟩:=b.tbls c _ e1;exact⟨m1 ++ m2,by rw[e2,Array.append_assoc]⟩
theorem Un.kept (k:∀b u,h.get? b=some u->h'.get? b=some u):Un fs ex H H h h':=
 ⟨λb ob q _ _ _=>k b ob q,λb ob q _ _ _=>⟨ob.slots,k b ob q⟩,λ_ _ _ n _=>n,λb ob q _=>⟨ob,k b ob q⟩,λ_ _ q=>q,λ_ _ _ q=>q,λ_ ps q=>⟨#[],by rw[q];simp⟩⟩
theorem Un.refl:Un fs ex H H h h:=Un.kept λ_ _ q=>q
theorem Un.laid (k:∀b u,h.get? b=some u->h'.get? b=some u) (hp:h.objs.size<=a) (hn:H a=none):Un fs ex H (upd H a o) h h' where
 keep:=λb u q _ _ _=>k b u q
 slot:=λb u q _ _ _=>⟨u.slots,k b u q⟩
 free:=λb u q n _=>by rw[YN (YJc (YJQ (YJJ q) hp))];exact n
 there:=λb u q _=>⟨u,k b u q⟩
 tups:=λb xs q=>by rw[YN (YV q hn)];exact q
 frzs:=λb u xs q=>by rw[YN (YV q hn)];exact q
 tbls:=λb ps q=>⟨#[],by rw[YN (YV q hn),q];simp⟩
theorem Un.write (mu:Mut (H x)) (he:e=x\/H e=some (.own x)) (k:∀b u,b≠e->h.get? b=some u->h'.get? b=some u) (rW:∃u,h'.get? e=some u):Un fs ex H (upd H x o) h h':=by
 have hx:∀b,H b=none->b≠x:=λb n z=>by subst z;rw[n]at mu;exact mu
 have hb:∀b,H b=none->b≠e:=λb n z=>by
  subst z;rcases he with r |r
  ·exact hx b n r
  ·rw[n]at r;cases r
 have hm:∀b u,H b=some u->¬Mut (some u)->b≠x:=λb u q nm z=>by subst z;rw[q]at mu;exact nm mu
 refine⟨λb u q n _ _=>k b u (hb b n) q,λb u q n _ _=>⟨u.slots,k b u (hb b n) q⟩,λb u q n _=>by rw[YN (hx b n)];exact n,λb u q _=>?_,
  λb xs q=>by rw[YN (hm b _ q λz=>z)];exact q,λb u xs q=>by rw[YN (hm b _ q λz=>z)];exact q,λb ps q=>⟨#[],by rw[YN (hm b _ q λz=>z),q];simp⟩⟩
 by_cases hbe:b=e
 ·subst hbe;exact rW
 ·exact⟨u,k b u hbe q⟩
end
def trk (h:Heap) (H:Hp):List Addr:=(List.range h.objs.size).filter λa=>(H a).isSome
def YEE (h:Heap) (H:Hp):Heap:=PySem.W.hideAll h (trk h H)
theorem YHB (h:Heap) (H:Hp):(YEE h H).objs.size=h.objs.size:=PySem.W.hideAll_size _ _
theorem YHp {h:Heap}{H:Hp}{b:Addr}{o:Obj} (e:h.get? b=some o) (n:H b=none):(YEE h H).get? b=some o:=
 PySem.W.hideAll_get _ e λhm=>by
  have q:(H b).isSome=true:=(YKK.mp hm).2;rw[n]at q;simp at q
theorem of_hidT {h:Heap}{H:Hp}{b:Addr}{o:Obj} (e:(YEE h H).get? b=some o):h.get? b=some o/\H b=none:=by
 have e':h.get? b=some o:=PySem.W.of_hideAll (trk h H) e;refine⟨e',?_⟩;cases q:H b with
 |none=>rfl
 |some x=>
  have hm:b∈trk h H:=YKK.mpr ⟨YKG.mpr (YJJ e'),by simp[q]⟩;have z:(YEE h H).get? b=none:=PySem.W.hideAll_none (trk h H) hm;rw[z]at e;cases e
def allNews (g h:Heap) (L:Addr):List (Addr×Obj):=(List.range h.objs.size).filterMap λa=>if a=L\/(g.get? a).isSome=true then none else (h.get? a).map λo=>(a,o)
def Ye (g h:Heap) (L d:Addr):List (Addr×Obj):=(allNews g h L).filter λp=>decide (p.1≠d)
end L2
namespace L2
open PySem PySem.Spec PyProof.Rows
structure Mod (K:W.Frag) (mg:Str->Option Value) (base:Heap):Prop where
 kin:K.In base
 glob:base.Ns mainGlobals mg
 blt:∃mb,base.Ns builtinsNs mb/\∀x:Str,x≠"__name__"->mb x=bootBuiltins x
 nolimit:base.NoLimit
structure Cx where
 prog:Program
 w:World
 K:W.Frag
 mg:Str->Option Value
 base:Heap
 A:Around
 N:List Str
 s₀:Shared
 H₀:Hp
 env:Env
 outer:List Env
 stack:List Env
 ex:List Addr
 fn:Str->Bool
 calm:Bool
 pn:List (Addr×Obj)
 xe:Value->Shared->Prop
def frs (l:List Env):List Addr:=l.filterMap (·.frame)
abbrev Cx.fs (X:Cx):List Addr:=frs X.outer
def Vis (sc:Scope) (x:Str):Prop:=sc.names.lookup x=some .local\/sc.names.lookup x=some .cell\/sc.names.lookup x=some .free
def Loc (sc:Scope) (x:Str):Prop:=sc.names.lookup x=some .local\/sc.names.lookup x=some .cell
def Look (env:Env) (h:Heap) (m:Str->Option Value) (x:Str) (u:Value):Prop:=
 (env.kindOf x=some .local/\m x=some u)\/((env.kindOf x=some .cell\/env.kindOf x=some .free)/\∃c,env.cells.lookup x=some c/\h.IsCell c (some u))
structure Cx.Ok (X:Cx):Prop where
 mod:Mod X.K X.mg X.base
 kind:X.env.scope.kind=.function
 glob:X.env.globals=mainGlobals
 blt:X.env.builtins=builtinsNs
 above:X.s₀.heap.objs.size<=X.env.locals
 inj:∀x y c,X.env.cells.lookup x=some c->X.env.cells.lookup y=some c->x=y
 has:∀x,(X.env.kindOf x=some .cell\/X.env.kindOf x=some .free)->∃c,X.env.cells.lookup x=some c
 cab:∀x c,X.fn x=true->X.env.cells.lookup x=some c->X.s₀.heap.objs.size<=c
 hd:X.calm=true->X.A.handled=none
 frames:X.A.frames=some X.stack
 stk:X.stack=X.outer\/(X.stack=X.env :: X.outer/\X.env.frame=some X.env.locals)
 exf:∀b∈X.ex,b≠X.env.locals/\∀x c,X.env.cells.lookup x=some c->c≠b
 bs:∀b o,X.base.get? b=some o->X.s₀.heap.get? b=some o/\X.H₀ b=none
 bsz:X.base.objs.size<=X.s₀.heap.objs.size
 noex:∀b o,X.base.get? b=some o->b∉X.ex
 exfs:∀b∈X.ex,b∉X.fs
 funs:X.s₀.heap.FunFrames X.base X.outer
 frf:∀b∈X.fs,X.H₀ b=none
structure Inv (X:Cx) (pins:List (Addr×Obj)) (σ:List (Option V)) (H:Hp) (s:Shared):Prop where
 ok:X.Ok
 os:s.os=X.s₀.os
 bare:AllBare s.gens
 base:Un X.fs X.ex X.H₀ H X.s₀.heap s.heap
 loc:∃m,s.heap.Ns X.env.locals m/\∀(i:Nat) (x:Str) (v:V),X.N[i]?=some x->σ[i]?=some (some v)->Vis X.env.scope x->∃u,Ym v u/\Look X.env s.heap m x u
 cell:∀x c,X.env.cells.lookup x=some c->∃v,s.heap.IsCell c v
 free:H X.env.locals=none
 freeC:∀x c,X.env.cells.lookup x=some c->H c=none
 pin:∀p∈X.pn ++ pins,s.heap.get? p.1=some p.2/\H p.1=none/\p.1≠X.env.locals/\p.1∉X.fs/\∀v,p.2.data≠.cell v
 hok:HOk X.prog X.w H s.heap
 len:σ.length=X.N.length
section
variable {X:Cx}{pins:List (Addr×Obj)}{σ:List (Option V)}{H H':Hp}{s:Shared}{h':Heap}
theorem Cx.Ok.nofr (ok:X.Ok) {b:Addr}{o:Obj} (e:X.base.get? b=some o):b∉X.fs:=λhb=>by
 have:=(ok.funs.mem hb).1;rw[e]at this;cases this
theorem Inv.bs (I:Inv X pins σ H s):∀b o,X.base.get? b=some o->s.heap.get? b=some o/\H b=none:=λb o e=>
 ⟨I.base.keep b o (I.ok.bs b o e).1 (I.ok.bs b o e).2 (I.ok.nofr e) (I.ok.noex b o e),I.base.free b o (I.ok.bs b o e).1 (I.ok.bs b o e).2 (I.ok.noex b o e)⟩
theorem Inv.bk (I:Inv X pins σ H s):∀b o,X.base.get? b=some o->s.heap.get? b=some o:=λb o e=>(I.bs b o e).1
theorem Inv.mod (I:Inv X pins σ H s):Mod X.K X.mg X.base:=I.ok.mod
theorem Inv.kIn (I:Inv X pins σ H s):X.K.In s.heap:=I.ok.mod.kin.keeps I.bk
theorem Inv.lt (I:Inv X pins σ H s):X.env.locals < s.heap.objs.size:=let ⟨_,hn,_⟩:=I.loc;hn.lt
theorem Inv.sz (I:Inv X pins σ H s):X.s₀.heap.objs.size<=s.heap.objs.size:=YJR I.ok.above (Nat.le_of_lt I.lt)
theorem Inv.nofs (I:Inv X pins σ H s) {a:Addr} (h:s.heap.objs.size<=a):a∉X.fs:=λhb=>by
 obtain⟨_,o,ho,_⟩:=I.ok.funs.mem hb;exact absurd (YJQ (YJJ ho) (YJR I.sz h)) (YJw _)
theorem Inv.cne (I:Inv X pins σ H s):∀x c,X.env.cells.lookup x=some c->c≠X.env.locals:=λx c e z=>by
 obtain⟨v,o,ho,hd⟩:=I.cell x c e;obtain⟨m,⟨o',es,ep,ho',hd',_⟩,_⟩:=I.loc;rw[z,ho']at ho;cases ho;rw[hd']at hd;cases hd
theorem Inv.funs (I:Inv X pins σ H s):s.heap.FunFrames X.base X.outer:=by
 have all:∀(l:List Env),(∀b∈frs l,b∈X.fs)->X.s₀.heap.FunFrames X.base l->s.heap.FunFrames X.base l:=by
  intro l
  induction l with
  |nil=>intro _ _;trivial
  |cons env r ih=>
   intro hs hl;obtain⟨hk,⟨L,o,hf,hn,ho,hd⟩,hr⟩:=hl;have hL:L∈X.fs:=hs L (by unfold frs;rw[YKQ,hf];exact YJI);obtain⟨sl,e⟩:=I.base.slot L o ho (I.ok.frf L hL) hL λz=>I.ok.exfs L z hL
   exact⟨hk,⟨L,_,hf,hn,e,hd⟩,ih (λb hb=>hs b (by unfold frs;rw[YKQ,hf];exact YJD _ hb)) hr⟩
 exact all X.outer (λ_ hb=>hb) I.ok.funs
theorem Inv.stack (I:Inv X pins σ H s):s.heap.FunFrames X.base X.stack:=by
 rcases I.ok.stk with e |⟨e,hf⟩
 ·rw[e];exact I.funs
 ·rw[e];obtain⟨m,hn,_⟩:=I.loc;refine .cons (by rw[I.ok.kind];decide) hf hn ?_ I.funs;exact Heap.get?_none_of_le (YJR I.ok.bsz I.ok.above)
theorem Inv.stkSub (I:Inv X pins σ H s):∀b∈frs X.stack,b∈X.env.locals :: X.fs:=λb hb=>by
 rcases I.ok.stk with e |⟨e,hf⟩
 ·rw[e]at hb;exact YJD _ hb
 ·rw[e]at hb;unfold frs at hb;rw[YKQ,hf]at hb;exact hb
theorem Inv.stkFree (I:Inv X pins σ H s):∀b∈frs X.stack,H b=none:=λb hb=>by
 rcases YJK.mp (I.stkSub b hb) with e |hb
 ·rw[e];exact I.free
 ·obtain⟨_,o,ho,_⟩:=I.ok.funs.mem hb;exact I.base.free b o ho (I.ok.frf b hb) λz=>I.ok.exfs b z hb
theorem Inv.step {g':Array GenState}{t':Nat}{d':Drawn}{ch:List Addr} (I:Inv X pins σ H s)
  (mX:∀b∈ch,(b∈X.ex\/X.s₀.heap.objs.size<=b)/\b≠X.env.locals/\(∀x c,X.env.cells.lookup x=some c->c≠b)/\∀p∈X.pn ++ pins,p.1≠b)
  (keep:∀b o,b≠X.env.locals->b∉X.fs->b∉ch->s.heap.get? b=some o->H b=none->h'.get? b=some o)
  (slot:∀b o,b≠X.env.locals->b∈X.fs->b∉ch->s.heap.get? b=some o->H b=none->∃sl,h'.get? b=some { o with slots:=sl }) (free:∀b o,b∉ch->s.heap.get? b=some o->H b=none->H' b=none)
  (there:∀b o,b∉ch->s.heap.get? b=some o->∃o',h'.get? b=some o')
  (tups:∀b xs,H b=some (.tup xs)->H' b=some (.tup xs)) (frzs:∀b o u,H b=some (.frz o u)->H' b=some (.frz o u)) (tbls:∀b ps,H b=some (.tbl ps)->∃more,H' b=some (.tbl (ps ++ more)))
  (ns:∀m,s.heap.Ns X.env.locals m->h'.Ns X.env.locals m) (hok:HOk X.prog X.w H' h') (hg:AllBare g'):
  Inv X pins σ H' { s with heap:=h',gens:=g',drawn:=d',toks:=t' }:=by
 have neL:∀b o,X.s₀.heap.get? b=some o->b≠X.env.locals:=λb o e=>YJc (YJQ (YJJ e) I.ok.above)
 have neC:∀b o,X.s₀.heap.get? b=some o->b∉X.ex->b∉ch:=λb o e hx hb=>by
  rcases(mX b hb).1 with z |z
  ·exact hx z
  ·exact absurd (YJQ (YJJ e) z) (YJw _)
 have cellK:∀x c,X.env.cells.lookup x=some c->∀v,s.heap.IsCell c v->h'.IsCell c v:=λx c e v ⟨o,ho,hd⟩=>by
  have nch:c∉ch:=λz=>(mX c z).2.2.1 x c e rfl
  by_cases hc:c∈X.fs
  ·obtain⟨sl,q⟩:=slot c o (I.cne x c e) hc nch ho (I.freeC x c e);exact⟨_,q,hd⟩
  ·exact⟨o,keep c o (I.cne x c e) hc nch ho (I.freeC x c e),hd⟩
 refine⟨I.ok,I.os,hg,⟨λb o e n hb hx=>?_,λb o e n hb hx=>?_,λb o e n hx=>?_,λb o e hx=>?_,λb xs e=>tups b xs (I.base.tups b xs e),λb o xs e=>frzs b o xs (I.base.frzs b o xs e),λb ps e=>?_⟩,?_,λx c e=>?_,?_,λx c e=>?_,λp hp=>?_,hok,I.len⟩
 ·exact keep b o (neL b o e) hb (neC b o e hx) (I.base.keep b o e n hb hx) (I.base.free b o e n hx)
 ·obtain⟨sl,e1⟩:=I.base.slot b o e n hb hx;obtain⟨qO,e2⟩:=slot b _ (neL b o e) hb (neC b o e hx) e1 (I.base.free b o e n hx);exact⟨qO,e2⟩
 ·obtain⟨o',e1⟩:=I.base.there b o e hx;exact free b o' (neC b o e hx) e1 (I.base.free b o e n hx)
 ·obtain⟨o',e1⟩:=I.base.there b o e hx;exact there b o' (neC b o e hx) e1
 ·obtain⟨m1,e1⟩:=I.base.tbls b ps e;obtain⟨m2,e2⟩:=tbls b _ e1;exact⟨m1 ++ m2,by rw[e2,Array.append_assoc]⟩
 ·obtain⟨m,hn,hl⟩:=I.loc;refine⟨m,ns m hn,λi x v e1 e2 e3=>?_⟩;obtain⟨u,r,l⟩:=hl i x v e1 e2 e3;refine⟨u,r,?_⟩;rcases l with l |⟨k,c,e,z⟩
  ·exact .inl l
  ·exact .inr ⟨k,c,e,cellK x c e _ z⟩
 ·obtain⟨v,z⟩:=I.cell x c e;exact⟨v,cellK x c e v z⟩
 ·obtain⟨m,⟨o,_,_,ho,_⟩,_⟩:=I.loc;exact free _ o (λz=>(mX _ z).2.1 rfl) ho I.free
 ·obtain⟨v,o,ho,hd⟩:=I.cell x c e;exact free c o (λz=>(mX c z).2.2.1 x c e rfl) ho (I.freeC x c e)
 ·obtain⟨e,n,ne,nf,d⟩:=I.pin p hp;have nch:p.1∉ch:=λz=>(mX p.1 z).2.2.2 p hp rfl
  exact⟨keep p.1 p.2 ne nf nch e n,free p.1 p.2 nch e n,ne,nf,d⟩
theorem Inv.un {t':Nat} (I:Inv X pins σ H s) (u:Un X.fs [] H H' s.heap h') (hok:HOk X.prog X.w H' h'):Inv X pins σ H' { s with heap:=h',toks:=t' }:=by
 obtain⟨m,⟨o,es,ep,ho,r⟩,_⟩:=id I.loc;obtain⟨sl,hL⟩:=u.any ho I.free (by simp);exact I.step (g':=s.gens) (d':=s.drawn) (ch:=[]) (λ_ z=>nomatch z) (λb o _ hb _ e n=>u.keep b o e n hb (by simp)) (λb o _ hb _ e n=>u.slot b o e n hb (by simp)) (λb o _ e n=>u.free b o e n (by simp)) (λb o _ e=>u.there b o e (by simp)) u.tups u.frzs u.tbls (λm' hm=>by
  obtain⟨o',es',ep',ho',r'⟩:=hm;rw[ho]at ho';cases ho';exact⟨_,es',ep',hL,r'⟩) hok I.bare
theorem Inv.call {g':Array GenState}{t':Nat}{d':Drawn}{ch:List Addr} (I:Inv X pins σ H s) (u:Un (frs X.stack) ch H H' s.heap h') (hok:HOk X.prog X.w H' h') (hg:AllBare g')
  (mX:∀b∈ch,(b∈X.ex\/X.s₀.heap.objs.size<=b)/\b≠X.env.locals/\(∀x c,X.env.cells.lookup x=some c->c≠b)/\∀p∈X.pn ++ pins,p.1≠b):
  Inv X pins σ H' { s with heap:=h',gens:=g',drawn:=d',toks:=t' }:=by
 obtain⟨m,⟨o,es,ep,ho,r⟩,_⟩:=id I.loc;obtain⟨sl,hL⟩:=u.any ho I.free λz=>(mX _ z).2.1 rfl
 exact I.step (ch:=ch) mX (λb o hL hb hc e n=>u.keep b o e n (λz=>(YJK.mp (I.stkSub b z)).elim hL hb) hc) (λb o _ _ hc e n=>u.any e n hc) (λb o hc e n=>u.free b o e n hc) (λb o hc e=>u.there b o e hc) u.tups u.frzs u.tbls (λm' hm=>by
  obtain⟨o',es',ep',ho',r'⟩:=hm;rw[ho]at ho';cases ho';exact⟨_,es',ep',hL,r'⟩) hok hg
theorem Inv.turned {t':Nat}{it:Addr} (I:Inv X pins σ H s) (k:∀b o,b≠it->s.heap.get? b=some o->h'.get? b=some o) (hn:H it=none) (hL:it≠X.env.locals)
  (h1:it∈X.ex\/X.s₀.heap.objs.size<=it) (h2:∀x c,X.env.cells.lookup x=some c->c≠it) (h3:∀p∈X.pn ++ pins,p.1≠it):Inv X pins σ H { s with heap:=h',toks:=t' }:=by
 have nit:∀b u,H b=some u->b≠it:=λb u e z=>by rw[z,hn]at e;cases e
 refine I.step (g':=s.gens) (d':=s.drawn) (ch:=[it]) (λb hb=>?_) (λb o _ _ hc e _=>k b o (λz=>hc (by simp[z])) e) (λb o _ _ hc e _=>⟨o.slots,k b o (λz=>hc (by simp[z])) e⟩) (λ_ _ _ _ n=>n)
  (λb o hc e=>⟨o,k b o (λz=>hc (by simp[z])) e⟩) (λ_ _ e=>e) (λ_ _ _ e=>e) (λb ps e=>⟨#[],by rw[e];simp⟩) (λm hm=>?_) (λb u e=>?_) I.bare
 ·have e:b=it:=by simpa using hb
  subst e;exact⟨h1,hL,h2,h3⟩
 ·obtain⟨o,es,ep,ho,r⟩:=hm;exact⟨o,es,ep,k _ o (Ne.symm hL) ho,r⟩
 ·refine(I.hok b u e).stay (λc v hc q=>k c v ?_ q) (λ_ q=>q) λ_ _ q=>q
  rcases hc with z |z
  ·rw[z];exact nit b u e
  ·exact nit c _ z
theorem Inv.tok (I:Inv X pins σ H s) (t:Nat):Inv X pins σ H { s with toks:=t }:=I.un (h':=s.heap) (t':=t) Un.refl I.hok
theorem Inv.kept {t':Nat} (I:Inv X pins σ H s) (k:∀b u,s.heap.get? b=some u->h'.get? b=some u):Inv X pins σ H { s with heap:=h',toks:=t' }:=I.un (Un.kept k) (I.hok.kept k)
theorem Inv.laid {a:Addr}{o:HO}{t':Nat} (I:Inv X pins σ H s) (k:∀b u,s.heap.get? b=some u->h'.get? b=some u) (hp:s.heap.objs.size<=a) (new:Yy X.prog X.w (upd H a o) h' a o):
  Inv X pins σ (upd H a o) { s with heap:=h',toks:=t' }:=I.un (Un.laid k hp (I.hok.fresh hp)) (I.hok.laid k hp new)
theorem Inv.write {x e:Addr}{o:HO}{t':Nat} (I:Inv X pins σ H s) (mu:Mut (H x)) (he:e=x\/H e=some (.own x)) (k:∀b u,b≠e->s.heap.get? b=some u->h'.get? b=some u) (rW:∃u,h'.get? e=some u)
  (new:Yy X.prog X.w (upd H x o) h' x o):Inv X pins σ (upd H x o) { s with heap:=h',toks:=t' }:=I.un (Un.write mu he k rW) (I.hok.write mu he k rW new)
theorem Inv.pins_of {qP:List (Addr×Obj)} (I:Inv X pins σ H s) (h:∀p∈qP,s.heap.get? p.1=some p.2/\H p.1=none/\p.1≠X.env.locals/\p.1∉X.fs/\∀v,p.2.data≠.cell v):Inv X qP σ H s:=
 ⟨I.ok,I.os,I.bare,I.base,I.loc,I.cell,I.free,I.freeC,λp hp=>(YJg.mp hp).elim (λz=>I.pin p (List.mem_append_left _ z)) (h p),I.hok,I.len⟩
theorem YEt {N:List Str} (hN:N.Nodup) {i j:Nat}{x:Str} (a:N[i]?=some x) (b:N[j]?=some x):i=j:=by
 obtain⟨h1,e1⟩:=YJe.mp a;obtain⟨h2,e2⟩:=YJe.mp b;exact(List.getElem_inj hN).mp (e1.trans e2.symm)
theorem YHC {M:Model}{A:Around}{E:Value->Shared->Prop}{i:Nat}{x:Str}{v:V}{u:Value}{Q:Unit->Shared->Prop} (I:Inv X pins σ H s) (hN:X.N.Nodup) (hi:X.N[i]?=some x) (hx:Loc X.env.scope x) (r:Ym v u)
  (h:∀s',Inv X pins (σ.set i (some v)) H s'->(∃a,Heap.SameBut a s.heap s'.heap/\(a=X.env.locals\/X.env.cells.lookup x=some a))->Q () s') (hf:X.fn x=true\/X.env.scope.names.lookup x=some .local:=by first |exact .inl rfl |exact .inr rfl |assumption):wpAny M A (storeName X.env x u) Q E s:=by
 obtain⟨m,hn,hl⟩:=id I.loc;have uG:(X.env.scope.kind == .class || (X.env.scope.kind == .module && X.env.locals != X.env.globals))=false:=by rw[I.ok.kind];rfl
 have hiσ:i < σ.length:=by rw[I.len];exact(YJe.mp hi).1
 have cne:=I.cne;have tracked:∀{a:Addr}{h':Heap},(∃o,s.heap.get? a=some o/\H a=none)->Heap.SameBut a s.heap h'->HOk X.prog X.w H h':=λ{a h'} ha hs b ob e=>by
  obtain⟨_,_,hfree⟩:=ha;refine(I.hok b ob e).stay (λc w' hc q=>(hs.2 c ?_).trans q) (λ_ q=>q) λ_ _ q=>q
  rintro rfl;rcases hc with rfl |hc
  ·rw[hfree]at e;cases e
  ·rw[hfree]at hc;cases hc
 rcases hx with hk |hk
 ·refine wpAny_storeName_local hk hn (λh' hn' hs=>?_) uG;obtain⟨oL,_,_,hoL,_⟩:=id hn;refine h _ ⟨I.ok,I.os,I.bare,⟨λb o e n hb hx=>?_,λb o e n hb hx=>?_,I.base.free,λb o e hx=>?_,I.base.tups,I.base.frzs,I.base.tbls⟩,⟨_,hn',λj y v' e1 e2 e3=>?_⟩,λy c e=>?_,I.free,I.freeC,λp hp=>?_,tracked ⟨oL,hoL,I.free⟩ hs,by simpa using I.len⟩ ⟨_,hs,.inl rfl⟩
  ·exact(hs.2 b (YJc (YJQ (YJJ e) I.ok.above))).trans (I.base.keep b o e n hb hx)
  ·obtain⟨sl,e1⟩:=I.base.slot b o e n hb hx;exact⟨sl,(hs.2 b (YJc (YJQ (YJJ e) I.ok.above))).trans e1⟩
  ·obtain⟨o',e1⟩:=I.base.there b o e hx;exact⟨o',(hs.2 b (YJc (YJQ (YJJ e) I.ok.above))).trans e1⟩
  ·by_cases hj:j=i
   ·subst hj;rw[hi]at e1;cases e1;rw[YKH hiσ]at e2;cases e2;exact⟨u,r,.inl ⟨hk,by simp⟩⟩
   ·rw[List.getElem?_set_ne (Ne.symm hj)]at e2;obtain⟨u',r',q⟩:=hl j y v' e1 e2 e3;refine⟨u',r',?_⟩;rcases q with ⟨k,e⟩ |⟨k,c,e,z⟩
    ·refine .inl ⟨k,?_⟩;have:y≠x:=λe=>hj (YEt hN e1 (e ▸ hi))
     simp[this,e]
    ·exact .inr ⟨k,c,e,z.sameBut hs (cne y c e)⟩
  ·obtain⟨w',z⟩:=I.cell y c e;exact⟨w',z.sameBut hs (cne y c e)⟩
  ·obtain⟨e,n,ne,nf,d⟩:=I.pin p hp;exact⟨(hs.2 p.1 ne).trans e,n,ne,nf,d⟩
 ·have hfn:X.fn x=true:=by
   rcases hf with z |z
   ·exact z
   ·rw[z]at hk;cases hk
  obtain⟨c,hc⟩:=I.ok.has x (.inl hk);obtain⟨w',z⟩:=I.cell x c hc;refine wpAny_storeName_cell I.ok.kind hk hc z (λh' hc' hs=>?_);obtain⟨oc,vK,uC⟩:=id z;refine h { s with heap:=h' } ⟨I.ok,I.os,I.bare,⟨λb o e n hb hx=>?_,λb o e n hb hx=>?_,I.base.free,λb o e hx=>?_,I.base.tups,I.base.frzs,I.base.tbls⟩,⟨m,hn.sameBut hs (Ne.symm (cne x c hc)),λj y v' e1 e2 e3=>?_⟩,λy c' e=>?_,I.free,I.freeC,λp hp=>?_,tracked ⟨oc,vK,I.freeC x c hc⟩ hs,by simpa using I.len⟩ ⟨c,hs,.inr hc⟩
  ·exact(hs.2 b (YJc (YJQ (YJJ e) (I.ok.cab x c hfn hc)))).trans (I.base.keep b o e n hb hx)
  ·obtain⟨sl,e1⟩:=I.base.slot b o e n hb hx;exact⟨sl,(hs.2 b (YJc (YJQ (YJJ e) (I.ok.cab x c hfn hc)))).trans e1⟩
  ·obtain⟨o',e1⟩:=I.base.there b o e hx;exact⟨o',(hs.2 b (YJc (YJQ (YJJ e) (I.ok.cab x c hfn hc)))).trans e1⟩
  ·by_cases hj:j=i
   ·subst hj;rw[hi]at e1;cases e1;rw[YKH hiσ]at e2;cases e2;exact⟨u,r,.inr ⟨.inl hk,c,hc,hc'⟩⟩
   ·rw[List.getElem?_set_ne (Ne.symm hj)]at e2;obtain⟨u',r',q⟩:=hl j y v' e1 e2 e3;refine⟨u',r',?_⟩;rcases q with q |⟨k,c',e,z'⟩
    ·exact .inl q
    ·refine .inr ⟨k,c',e,z'.sameBut hs ?_⟩;rintro rfl;exact hj (YEt hN e1 (I.ok.inj _ _ _ e hc ▸ hi))
  ·by_cases hcc:c'=c
   ·subst hcc;exact⟨_,hc'⟩
   ·obtain⟨w2,z2⟩:=I.cell y c' e;exact⟨w2,z2.sameBut hs hcc⟩
  ·obtain⟨e,n,ne,nf,d⟩:=I.pin p hp;refine⟨(hs.2 p.1 ?_).trans e,n,ne,nf,d⟩;intro q;rw[q,vK]at e;have q':oc=p.2:=YJf e;exact d w' (by rw[<-q'];exact uC)
theorem YAe {M:Model}{A:Around}{E:Value->Shared->Prop}{i:Nat}{x:Str}{v:V}{u:Value}{Q:Unit->Shared->Prop} (I:Inv X pins σ H s) (hN:X.N.Nodup) (hi:X.N[i]?=some x) (hx:Loc X.env.scope x) (r:Ym v u)
  (h:∀s',Inv X pins (σ.set i (some v)) H s'->Q () s') (hf:X.fn x=true\/X.env.scope.names.lookup x=some .local:=by first |exact .inl rfl |exact .inr rfl |assumption):wpAny M A (storeName X.env x u) Q E s:=
 YHC I hN hi hx r (λs' I' _=>h s' I') hf
theorem Inv.call' {s':Shared}{ch:List Addr} (I:Inv X pins σ H s) (ho:s'.os=s.os) (u:Un (frs X.stack) ch H H' s.heap s'.heap) (hok:HOk X.prog X.w H' s'.heap) (hg:AllBare s'.gens)
  (mX:∀b∈ch,(b∈X.ex\/X.s₀.heap.objs.size<=b)/\b≠X.env.locals/\(∀x c,X.env.cells.lookup x=some c->c≠b)/\∀p∈X.pn ++ pins,p.1≠b):Inv X pins σ H' s':=by
 obtain⟨h',g',d',t',o'⟩:=s';have e:o'=s.os:=ho;subst e;exact I.call (g':=g') (t':=t') (d':=d') u hok hg mX
end
abbrev XK:=Value->Option Addr->Hp->Prop
abbrev St:=List (Option V)
abbrev VK:=V->Hp->Prop
abbrev TE:=St->Hp->VK->Prop
abbrev TT:=St->Hp->(Bool->Hp->Prop)->Prop
abbrev TA:=St->Hp->(List V->Hp->Prop)->Prop
structure YAP where
 nx:St->Hp->Prop
 rt:VK
 bk:St->Hp->Prop:=λ_ _=>False
 ct:St->Hp->Prop:=λ_ _=>False
abbrev TS:=YAP->St->Hp->Prop
def EP (X:Cx) (pins:List (Addr×Obj)) (σ:St) (Q:VK) (u:Value) (s':Shared):Prop:=∃v H',Inv X pins σ H' s'/\Ym v u/\Q v H'
def TP (X:Cx) (pins:List (Addr×Obj)) (σ:St) (Q:Bool->Hp->Prop) (b:Bool) (s':Shared):Prop:=∃H',Inv X pins σ H' s'/\Q b H'
def AP (X:Cx) (pins:List (Addr×Obj)) (σ:St) (Q:List V->Hp->Prop) (us:List Value) (s':Shared):Prop:=∃vs H',Inv X pins σ H' s'/\Yi vs us/\Q vs H'
def SP (X:Cx) (pins:List (Addr×Obj)) (D:YAP) (f:Flow) (s':Shared):Prop:=
 match f with
 |.next=>∃σ' H',Inv X pins σ' H' s'/\D.nx σ' H'
 |.brk=>∃σ' H',Inv X pins σ' H' s'/\D.bk σ' H'
 |.cont=>∃σ' H',Inv X pins σ' H' s'/\D.ct σ' H'
 |.ret u=>∃v σ' H',Inv X pins σ' H' s'/\Ym v u/\D.rt v H'
def PE (X:Cx) (e:Expr) (t:TE):Prop:=
 ∀(pins:List (Addr×Obj)) (s:Shared) (σ:St) (H:Hp) (Q:VK),Inv X pins σ H s->t σ H Q->wpAny (model X.prog X.w) X.A (eval e X.env) (EP X pins σ Q) X.xe s
def PT (X:Cx) (e:Expr) (t:TT):Prop:=
 ∀(pins:List (Addr×Obj)) (s:Shared) (σ:St) (H:Hp) (Q:Bool->Hp->Prop),Inv X pins σ H s->t σ H Q->wpAny (model X.prog X.w) X.A (isTrue e X.env (eval e X.env)) (TP X pins σ Q) X.xe s
def PW (X:Cx) (e:Expr) (t:TT):Prop:=
 ∀(whole:Sem Value) (pins:List (Addr×Obj)) (s:Shared) (σ:St) (H:Hp) (Q:Bool->Hp->Prop),Inv X pins σ H s->t σ H Q->wpAny (model X.prog X.w) X.A (isTrue e X.env whole) (TP X pins σ Q) X.xe s
theorem PW.pt {X:Cx}{e:Expr}{t:TT} (h:PW X e t):PT X e t:=h _
def PA (X:Cx) (es:List Expr) (t:TA):Prop:=
 ∀(pos:Pos) (pins:List (Addr×Obj)) (s:Shared) (σ:St) (H:Hp) (Q:List V->Hp->Prop),Inv X pins σ H s->t σ H Q->wpAny (model X.prog X.w) X.A (spliced (backTo pos (starEach es X.env))) (AP X pins σ Q) X.xe s
def PS (X:Cx) (st:Stmt) (t:TS):Prop:=
 ∀(pins:List (Addr×Obj)) (s:Shared) (σ:St) (H:Hp) (D:YAP),Inv X pins σ H s->t D σ H->wpAny (model X.prog X.w) X.A (exec st X.env) (SP X pins D) X.xe s
def PSs (X:Cx) (st:List Stmt) (t:TS):Prop:=
 ∀(pins:List (Addr×Obj)) (s:Shared) (σ:St) (H:Hp) (D:YAP),Inv X pins σ H s->t D σ H->wpAny (model X.prog X.w) X.A (execs st X.env) (SP X pins D) X.xe s
theorem thn {α:Type}{t:Sem α}{Q Q':α->Shared->Prop}{M:Model}{A:Around}{E:Value->Shared->Prop}{s:Shared} (h:wpAny M A t Q E s) (hQ:∀a s,Q a s->Q' a s):wpAny M A t Q' E s:=wpAny_mono h hQ λ_ _ x=>x
end L2
namespace L2
open PySem PySem.Spec PyProof.Rows
section
variable {X:Cx}
inductive tVar_ (i:Nat) (σ:St) (H:Hp) (Q:VK):Prop where
 |mk (v:_) (aQ:σ[i]?=some (some v)) (aR:Q v H):tVar_ i σ H Q
def tVar (i:Nat):TE:=λσ H Q=>tVar_ i σ H Q
def tC (v:V):TE:=λ_ H Q=>Q v H
theorem pe_var {i:Nat}{x:Str}{pos:Pos} (hN:X.N[i]?=some x) (hv:Vis X.env.scope x) (hd:(x == ("__debug__":Str))=false:=by decide) (hcd:(x == ("__classdict__":Str))=false:=by decide):PE X (.Name x pos) (tVar i):=by
 intro pins s σ H Q I h;obtain⟨v,e,h⟩:=h;obtain⟨m,hn,hl⟩:=I.loc;obtain⟨u,r,l⟩:=hl i x v hN e hv;have fin:EP X pins σ Q u s:=⟨v,H,I,r,h⟩;rcases l with ⟨hk,hm⟩ |⟨hk,c,hc,eE⟩
 ·exact wpAny_Name (wpAny_loadName_local I.ok.kind hk hn hm fin) hd
 ·rcases hk with hk |hk
  ·exact wpAny_Name (wpAny_loadName_cell I.ok.kind hk hc eE fin) hd
  ·exact wpAny_Name (wpAny_loadName_free I.ok.kind hk hc eE fin hcd) hd
theorem YC {i j pos}:PE X (.Constant (.int i) j pos) (tC (.int i)):=λ_ _ _ H _ I h=>wpAny_Constant_int ⟨.int i,H,I.tok _,⟨_,U⟩,h⟩
theorem Zu {b j pos}:PE X (.Constant (.bool b) j pos) (tC (.bl b)):=λ_ _ _ H _ I h=>Constant_bool ⟨.bl b,H,I,U,h⟩
theorem YA4 {j pos}:PE X (.Constant .none j pos) (tC .non):=λ_ _ _ H _ I h=>Constant_none ⟨.non,H,I,U,h⟩
theorem YW {x j pos}:PE X (.Constant (.str x) j pos) (tC (.str x)):=λ_ _ _ H _ I h=>Calls.Constant_str ⟨.str x,H,I.tok _,⟨_,U⟩,h⟩
def Gl (X:Cx) (x:Str):Prop:=X.env.kindOf x=some .globalImplicit
theorem YB4 {E:Value->Shared->Prop}{pins:List (Addr×Obj)}{s:Shared}{σ:St}{H:Hp}{x:Str}{u:Value}{pos:Pos}{Q:Value->Shared->Prop} (I:Inv X pins σ H s) (hg:Gl X x) (hm:X.mg x=some u) (h:Q u s)
  (hd:(x == ("__debug__":Str))=false:=by decide):wpAny (model X.prog X.w) X.A (eval (.Name x pos) X.env) Q E s:=
 Calls.Name_function_global I.ok.kind hg (Calls.loadGlobal_global (by rw[I.ok.glob];exact I.mod.glob.keeps I.bk) hm h) hd
theorem YAQ {E:Value->Shared->Prop}{pins:List (Addr×Obj)}{s:Shared}{σ:St}{H:Hp}{x:Str}{u:Value}{pos:Pos}{Q:Value->Shared->Prop} (I:Inv X pins σ H s) (hg:Gl X x) (hm:X.mg x=none) (hv:bootBuiltins x=some u) (h:Q u s)
  (hn:x≠"__name__":=by decide) (hd:(x == ("__debug__":Str))=false:=by decide):wpAny (model X.prog X.w) X.A (eval (.Name x pos) X.env) Q E s:=by
 obtain⟨mb,h1,h2⟩:=I.mod.blt;exact Calls.Name_function_global I.ok.kind hg (Calls.loadGlobal_builtin (by rw[I.ok.glob];exact I.mod.glob.keeps I.bk) hm (by rw[I.ok.blt];exact h1.keeps I.bk) ((h2 x hn).trans hv) h) hd
theorem JA {x:Str}{v:V}{u:Value}{pos:Pos} (hg:Gl X x) (hm:X.mg x=some u) (r:Ym v u) (hd:(x == ("__debug__":Str))=false:=by decide):PE X (.Name x pos) (tC v):=
 λ_ _ _ H _ I h=>YB4 I hg hm ⟨v,H,I,r,h⟩ hd
theorem JB {x:Str}{v:V}{u:Value}{pos:Pos} (hg:Gl X x) (hm:X.mg x=none) (hv:bootBuiltins x=some u) (r:Ym v u) (hn:x≠"__name__":=by decide) (hd:(x == ("__debug__":Str))=false:=by decide):PE X (.Name x pos) (tC v):=
 λ_ _ _ H _ I h=>YAQ I hg hm hv ⟨v,H,I,r,h⟩ hn hd
variable {a b:Expr}{ta tb:TE}{pos:Pos}
def PC (X:Cx) (op:CmpOp) (a b:Expr) (t:TE):Prop:=
 ∀(pins:List (Addr×Obj)) (s:Shared) (σ:St) (H:Hp) (Q:VK),Inv X pins σ H s->t σ H Q->
  wpAny (model X.prog X.w) X.A (eval a X.env) (λv s₁=>wpAny (model X.prog X.w) X.A (eval b X.env) (λu s₂=>wpAny (model X.prog X.w) X.A (compareOp op v u) (EP X pins σ Q) X.xe s₂) X.xe s₁) X.xe s
inductive tB_ (Q:Bool->Hp->Prop) (x:V) (H1:Hp):Prop where
 |mk (c:_) (aQ:x=.bl c) (aR:Q c H1):tB_ Q x H1
def tB (t:TE):TT:=λσ H Q=>t σ H λx H1=>tB_ Q x H1
theorem pe_cmp {op:CmpOp}{t:TE} (h:PC X op a b t) (h1:behindInMarks op b=false:=by first |exact nobehind _ (by decide) (by decide) |rfl):PE X (.Compare a [op] [b] pos) t:=λpins s σ H Q I hw=>wpAny_Compare1 (h pins s σ H Q I hw) h1
theorem Xe {op:CmpOp}{t:TE} (h:PC X op a b t) (h1:behindInMarks op b=false:=by first |exact nobehind _ (by decide) (by decide) |rfl):PT X (.Compare a [op] [b] pos) (tB t):=by
 intro pins s σ H Q I hw;refine wpAny_isTrue_Compare1 (thn (h pins s σ H _ I hw) λv s1 h1=>thn h1 λu s2 h2=>thn h2 λc s3 ⟨x,H1,I1,r1,q1⟩=>?_) h1;obtain⟨d,rfl,q⟩:=q1;cases r1;exact wpAny_truthy_bool ⟨H1,I1,q⟩
theorem ZC {e:Expr}{t:TE} (h:PE X e t) (he:∀whole,isTrue e X.env whole=(do let v <-whole;standAt e.pos;holding [v] (truthy v)):=by intro _;rfl):PT X e (tB t):=by
 intro pins s σ H Q I hw;refine isTrue_plain (thn (h pins s σ H _ I hw) λv s1 ⟨x,H1,I1,r1,q1⟩=>?_) (he _);obtain⟨d,rfl,q⟩:=q1;cases r1;exact wpAny_truthy_bool ⟨H1,I1,q⟩
variable {tA tB':TT}{Ye:List Expr}
def tAnd (t u:TT):TT:=λσ H Q=>t σ H λc H1=>if c=true then u σ H1 Q else Q false H1
def tOr (t u:TT):TT:=λσ H Q=>t σ H λc H1=>if c=true then Q true H1 else u σ H1 Q
def tNot (t:TT):TT:=λσ H Q=>t σ H λc H1=>Q (!c) H1
theorem YB5 (ha:PT X a tA):PW X (.BoolOp .And [a] pos) tA:=by
 intro wh pins s σ H Q I h;refine isTrue_and (thn (ha pins s σ H Q I h) λc s1 e=>?_);cases c with
 |true=>exact isTrue_and_nil e
 |false=>exact e
theorem YA5 (ha:PT X a tA):PW X (.BoolOp .Or [a] pos) tA:=by
 intro wh pins s σ H Q I h;refine isTrue_or (thn (ha pins s σ H Q I h) λc s1 e=>?_);cases c with
 |false=>exact isTrue_or_nil e
 |true=>exact e
theorem YEF (ha:PT X a tA) (hb:PW X (.BoolOp .And (b :: Ye) pos) tB'):PW X (.BoolOp .And (a :: b :: Ye) pos) (tAnd tA tB'):=by
 intro wh pins s σ H Q I h;refine isTrue_and (thn (ha pins s σ H _ I h) λc s1 ⟨H1,I1,q1⟩=>?_);cases c with
 |true=>exact hb wh pins s1 σ H1 Q I1 q1
 |false=>exact⟨H1,I1,q1⟩
theorem YCJ (ha:PT X a tA) (hb:PW X (.BoolOp .Or (b :: Ye) pos) tB'):PW X (.BoolOp .Or (a :: b :: Ye) pos) (tOr tA tB'):=by
 intro wh pins s σ H Q I h;refine isTrue_or (thn (ha pins s σ H _ I h) λc s1 ⟨H1,I1,q1⟩=>?_);cases c with
 |true=>exact⟨H1,I1,q1⟩
 |false=>exact hb wh pins s1 σ H1 Q I1 q1
theorem Zf (ha:PT X a tA):PT X (.UnaryOp .Not a pos) (tNot tA):=by
 intro pins s σ H Q I h;exact isTrue_not (ha pins s σ H (λc H1=>Q (!c) H1) I h)
def tAndV (ta tb:TE):TE:=λσ H Q=>ta σ H λx H1=>∃c,x=.bl c/\if c=true then tb σ H1 Q else Q (.bl false) H1
def tOrV (ta tb:TE):TE:=λσ H Q=>ta σ H λx H1=>∃c,x=.bl c/\if c=true then Q (.bl true) H1 else tb σ H1 Q
def tNotV (ta:TE):TE:=λσ H Q=>ta σ H λx H1=>∃c,x=.bl c/\Q (.bl (!c)) H1
theorem Zv {op}{t:TE} (h:PE X a t):PE X (.BoolOp op [a] pos) t:=λpins s σ H Q I hw=>BoolOp_one (h pins s σ H Q I hw)
theorem Zw (ha:PE X a ta) (hb:PE X (.BoolOp .And (b :: Ye) pos) tb):PE X (.BoolOp .And (a :: b :: Ye) pos) (tAndV ta tb):=by
 intro pins s σ H Q I h;refine BoolOp_and (thn (ha pins s σ H _ I h) λv s1 ⟨x,H1,I1,r1,q1⟩=>?_);obtain⟨c,rfl,q1⟩:=q1;cases r1;refine wpAny_truthy_bool ?_;cases c with
 |true=>exact hb pins s1 σ H1 Q I1 q1
 |false=>exact⟨.bl false,H1,I1,U,q1⟩
theorem pe_or (ha:PE X a ta) (hb:PE X (.BoolOp .Or (b :: Ye) pos) tb):PE X (.BoolOp .Or (a :: b :: Ye) pos) (tOrV ta tb):=by
 intro pins s σ H Q I h;refine BoolOp_or (thn (ha pins s σ H _ I h) λv s1 ⟨x,H1,I1,r1,q1⟩=>?_);obtain⟨c,rfl,q1⟩:=q1;cases r1;refine wpAny_truthy_bool ?_;cases c with
 |false=>exact hb pins s1 σ H1 Q I1 q1
 |true=>exact⟨.bl true,H1,I1,U,q1⟩
theorem YHq (ha:PE X a ta):PE X (.UnaryOp .Not a pos) (tNotV ta):=by
 intro pins s σ H Q I h;refine UnaryOp_ (thn (ha pins s σ H _ I h) λv s1 ⟨x,H1,I1,r1,q1⟩=>?_);obtain⟨c,rfl,q1⟩:=q1;cases r1;exact not_of (wpAny_truthy_bool ⟨.bl (!c),H1,I1,U,q1⟩)
def tIf (t:TT) (ta tb:TE):TE:=λσ H Q=>t σ H λc H1=>if c=true then ta σ H1 Q else tb σ H1 Q
theorem Xf {c:Expr} (hc:PT X c tA) (ha:PE X a ta) (hb:PE X b tb):PE X (.IfExp c a b pos) (tIf tA ta tb):=by
 intro pins s σ H Q I h;refine wpAny_IfExp (thn (hc pins s σ H _ I h) λd s1 ⟨H1,I1,q1⟩=>?_);cases d with
 |true=>exact ha pins s1 σ H1 Q I1 q1
 |false=>exact hb pins s1 σ H1 Q I1 q1
end
end L2
namespace L2
open PySem PySem.Spec PyProof.Rows
def SqL (K:W.Frag) (H:Hp) (a:Addr) (xs:List V):Prop:=
 Rd H a (.lst xs)\/
  ∃(o:Obj) (its:Array Value) (n:Nat),K.lookup a=some o/\o.cls=.type "list"/\o.dict=none/\o.data=.seq its n/\its.size<=sizeLine/\Yi xs its.toList
def SqT (K:W.Frag) (H:Hp) (a:Addr) (xs:List V):Prop:=
 Rd H a (.tup xs)\/
  ∃(o:Obj) (its:Array Value) (n:Nat),K.lookup a=some o/\o.cls=.type "tuple"/\o.data=.seq its n/\its.size<=sizeLine/\Yi xs its.toList
def absV:Value->Option V
 |.none=>some .non
 |.bool b=>some (.bl b)
 |.int i _=>some (.int i)
 |.str x _=>some (.str x)
 |.bytes b _=>some (.byt b)
 |.float b _=>some (.flt b)
 |.ref a=>some (.ref a)
 |.type n=>some (.ty n)
 |_=>none
theorem Ym.abs {x:V}{u:Value} (r:Ym x u):absV u=some x:=by
 cases x with
 |non=>cases r;rfl
 |bl _=>cases r;rfl
 |int _=>obtain⟨t,rfl⟩:=r;rfl
 |str _=>obtain⟨t,rfl⟩:=r;rfl
 |byt _=>obtain⟨t,rfl⟩:=r;rfl
 |flt _=>obtain⟨t,rfl⟩:=r;rfl
 |ref _=>cases r;rfl
 |ty _=>cases r;rfl
theorem Ym.inj {x y:V}{u:Value} (r:Ym x u) (q:Ym y u):x=y:=YJf (r.abs.symm.trans q.abs)
theorem Yi.inj:∀{xs ys:List V}{us:List Value},Yi xs us->Yi ys us->xs=ys
 |_,_,_,.nil,.nil=>rfl
 |_,_,_,.cons r t,.cons r' t'=>by rw[r.inj r',Yi.inj t t']
section
variable {X:Cx}{pins:List (Addr×Obj)}{σ:St}{H:Hp}{s:Shared}{a:Addr}{xs ys:List V}
theorem SqL.of {K:W.Frag} (h:H a=some (.lst xs)):SqL K H a xs:=.inl (.inl h)
theorem SqT.of {K:W.Frag} (h:H a=some (.tup xs)):SqT K H a xs:=.inl (.inl h)
theorem Inv.list (I:Inv X pins σ H s) (h:SqL X.K H a xs):∃its:List Value,Yi xs its/\PlainL s.heap a its.toArray/\xs.length<=sizeLine:=by
 rcases h with h |⟨o,its,n,hk,hc,hd,hs,hz,r⟩
 ·obtain⟨z,its,n,r,e⟩:=h.ok I.hok;exact⟨its,r,⟨_,n,e,U,U,U⟩,z⟩
 ·refine⟨its.toList,r,⟨o,n,I.kIn a o hk,hc,hd,by simpa using hs⟩,?_⟩;have e:=r.length;simp only[YJk]at e;omega
theorem Inv.tuple (I:Inv X pins σ H s) (h:SqT X.K H a xs):∃its:List Value,Yi xs its/\IsTup s.heap a its.toArray/\xs.length<=sizeLine:=by
 rcases h with h |⟨o,its,n,hk,hc,hs,hz,r⟩
 ·obtain⟨z,its,r,p⟩:=h.ok I.hok;exact⟨its,r,p,z⟩
 ·refine⟨its.toList,r,⟨o,I.kIn a o hk,hc,n,by simpa using hs⟩,?_⟩;have e:=r.length;simp only[YJk]at e;omega
theorem Inv.list_inj (I:Inv X pins σ H s) (h:SqL X.K H a xs) (h':SqL X.K H a ys):xs=ys:=by
 obtain⟨its,r,⟨o,n,e,_,_,d⟩,_⟩:=I.list h;obtain⟨its',r',⟨o',n',e',_,_,d'⟩,_⟩:=I.list h';rw[e]at e';cases e';rw[d]at d'
 injection d' with d1 _
 have:its=its':=by simpa using YJ2 Array.toList d1
 subst this;exact r.inj r'
theorem Inv.tuple_inj (I:Inv X pins σ H s) (h:SqT X.K H a xs) (h':SqT X.K H a ys):xs=ys:=by
 obtain⟨its,r,⟨o,e,_,n,d⟩,_⟩:=I.tuple h;obtain⟨its',r',⟨o',e',_,n',d'⟩,_⟩:=I.tuple h';rw[e]at e';cases e';rw[d]at d'
 injection d' with d1 _
 have:its=its':=by simpa using YJ2 Array.toList d1
 subst this;exact r.inj r'
end
abbrev Cx.wish (X:Cx) (E:Value->Shared->Prop):Cx:={ X with xe:=E }
abbrev Cx.nox (X:Cx):Cx:=X.wish λ_ _=>False
theorem Cx.Ok.wish {X:Cx} (ok:X.Ok) (E:Value->Shared->Prop):(X.wish E).Ok:=
 ⟨ok.mod,ok.kind,ok.glob,ok.blt,ok.above,ok.inj,ok.has,ok.cab,ok.hd,ok.frames,ok.stk,ok.exf,ok.bs,ok.bsz,ok.noex,ok.exfs,ok.funs,ok.frf⟩
theorem Cx.Ok.unwish {X:Cx}{E:Value->Shared->Prop} (ok:(X.wish E).Ok):X.Ok:=
 ⟨ok.mod,ok.kind,ok.glob,ok.blt,ok.above,ok.inj,ok.has,ok.cab,ok.hd,ok.frames,ok.stk,ok.exf,ok.bs,ok.bsz,ok.noex,ok.exfs,ok.funs,ok.frf⟩
section
variable {X:Cx}{pins:List (Addr×Obj)}{σ:St}{H:Hp}{s:Shared}{E:Value->Shared->Prop}
theorem Inv.wish (I:Inv X pins σ H s) (E:Value->Shared->Prop):Inv (X.wish E) pins σ H s:=⟨I.ok.wish E,I.os,I.bare,I.base,I.loc,I.cell,I.free,I.freeC,I.pin,I.hok,I.len⟩
theorem Inv.unwish (I:Inv (X.wish E) pins σ H s):Inv X pins σ H s:=⟨I.ok.unwish,I.os,I.bare,I.base,I.loc,I.cell,I.free,I.freeC,I.pin,I.hok,I.len⟩
theorem SP.unwish {D:YAP}{f:Flow}{s':Shared} (h:SP (X.wish E) pins D f s'):SP X pins D f s':=by
 cases f with
 |next=>obtain⟨σ',H',I,q⟩:=h;exact⟨σ',H',I.unwish,q⟩
 |brk=>obtain⟨σ',H',I,q⟩:=h;exact⟨σ',H',I.unwish,q⟩
 |cont=>obtain⟨σ',H',I,q⟩:=h;exact⟨σ',H',I.unwish,q⟩
 |ret u=>obtain⟨v,σ',H',I,r,q⟩:=h;exact⟨v,σ',H',I.unwish,r,q⟩
theorem PSs.nox {st:List Stmt}{t:TS} (h:PSs X.nox st t):PSs X st t:=λpins s σ H D I hw=>
 wpAny_mono (h pins s σ H D (I.wish _) hw) (λ_ _ q=>q.unwish) λ_ _ z=>False.elim z
end
section
variable {X:Cx}{st:Stmt}{Ye:List Stmt}{t u:TS}{e:Expr}{te:TE}{pos:Pos}
def YAH:TS:=λD σ H=>D.nx σ H
def tSeq (t u:TS):TS:=λD σ H=>t { D with nx:=u D } σ H
theorem YY:PSs X [] YAH:=λ_ _ σ H _ I h=>wpAny_execs_nil ⟨σ,H,I,h⟩
theorem YE (h1:PS X st t) (h2:PSs X Ye u):PSs X (st :: Ye) (tSeq t u):=by
 intro pins s σ H D I h;refine wpAny_execs_cons (thn (h1 pins s σ H { D with nx:=u D } I h) λf s1 q=>?_);cases f with
 |next=>
  obtain⟨σ',H',I',q⟩:=q;exact h2 pins s1 σ' H' D I' q
 |ret v=>exact q
 |brk=>exact q
 |cont=>exact q
theorem YF (h1:PS X st t):PSs X [st] t:=by
 intro pins s σ H D I h;refine wpAny_execs_cons (thn (h1 pins s σ H D I h) λf s1 q=>?_);cases f with
 |next=>exact wpAny_execs_nil q
 |ret v=>exact q
 |brk=>exact q
 |cont=>exact q
def tCont:TS:=λD σ H=>D.ct σ H
theorem YBd:PS X (.Continue pos) tCont:=λ_ _ σ H _ I h=>wpAny_Continue ⟨σ,H,I,h⟩
theorem Inv.quiet {pins:List (Addr×Obj)}{σ:St}{H:Hp}{s:Shared} (I:Inv X pins σ H s):interactive X.env=false:=by simp[interactive,I.ok.kind]
def tDrop (te:TE):TS:=λD σ H=>te σ H λ_ H1=>D.nx σ H1
theorem JO (he:PE X e te) (hs:swapsWith e none pos.line X.env=pure false:=by rfl):PS X (.Expr e pos) (tDrop te):=by
 intro pins s σ H D I h;exact wpAny_Expr_any (thn (he pins s σ H _ I h) λv s1 ⟨x,H1,I1,r1,q1⟩=>⟨σ,H1,I1,q1⟩) I.quiet hs
def tRet (te:TE):TS:=λD σ H=>te σ H D.rt
theorem YT (he:PE X e te):PS X (.Return (some e) pos) (tRet te):=by
 intro pins s σ H D I h;exact wpAny_Return_some (thn (he pins s σ H _ I h) λv s1 ⟨x,H1,I1,r1,q1⟩=>⟨x,σ,H1,I1,r1,q1⟩)
def tIfS (c:TT) (t u:TS):TS:=λD σ H=>c σ H λb H1=>if b=true then t D σ H1 else u D σ H1
theorem Yt {c:Expr}{a b:List Stmt}{tc:TT} (hc:PT X c tc) (ha:PSs X a t) (hb:PSs X b u):PS X (.If c a b pos) (tIfS tc t u):=by
 intro pins s σ H D I h;refine wpAny_If (thn (hc pins s σ H _ I h) λd s1 ⟨H1,I1,q1⟩=>?_);cases d with
 |true=>exact ha pins s1 σ H1 D I1 q1
 |false=>exact hb pins s1 σ H1 D I1 q1
def tNever:TS:=λ_ _ _=>False
theorem Zq {sts:List Stmt}:PSs X sts tNever:=λ_ _ _ _ _ _ h=>h.elim
end
abbrev TG:=V->St->Hp->(St->Hp->Prop)->Prop
abbrev TGs:=List V->St->Hp->(St->Hp->Prop)->Prop
def PG (X:Cx) (target:Expr) (t:TG):Prop:=
 ∀(pins:List (Addr×Obj)) (s:Shared) (σ:St) (H:Hp) (v:V) (u:Value) (Q:St->Hp->Prop),Inv X pins σ H s->Ym v u->t v σ H Q->
  wpAny (model X.prog X.w) X.A (assign target X.env u) (λ_ s'=>∃σ' H',Inv X pins σ' H' s'/\Q σ' H') X.xe s
def PGs (X:Cx) (ts:List Expr) (t:TGs):Prop:=
 ∀(pins:List (Addr×Obj)) (s:Shared) (σ:St) (H:Hp) (vs:List V) (us:List Value) (Q:St->Hp->Prop),Inv X pins σ H s->Yi vs us->t vs σ H Q->
  wpAny (model X.prog X.w) X.A (assignInOrder ((assignEach ts X.env).map (·.2)) us) (λ_ s'=>∃σ' H',Inv X pins σ' H' s'/\Q σ' H') X.xe s
abbrev TIp:=V->V->Hp->VK->Prop
def PIp (X:Cx) (op:Operator) (t:TIp):Prop:=
 ∀(pins:List (Addr×Obj)) (s:Shared) (σ:St) (H:Hp) (x y:V) (v u:Value) (Q:VK),Inv X pins σ H s->Ym x v->Ym y u->t x y H Q->
  wpAny (model X.prog X.w) X.A (inplaceOp op v u) (EP X pins σ Q) X.xe s
section
variable {X:Cx}{pos:Pos}
def Yu (i:Nat):TG:=λv σ H Q=>Q (σ.set i (some v)) H
theorem Yf {i:Nat}{x:Str} (hN:X.N.Nodup) (hi:X.N[i]?=some x) (hx:Loc X.env.scope x) (hf:X.fn x=true\/X.env.scope.names.lookup x=some .local:=by first |exact .inl rfl |exact .inr rfl |assumption):PG X (.Name x pos) (Yu i):=by
 intro pins s σ H v u Q I r h;exact wpAny_assign_Name (YAe I hN hi hx r (λs' I'=>⟨_,H,I',h⟩) hf)
inductive gNil_ (vs:List V) (σ:St) (H:Hp) (Q:St->Hp->Prop):Prop where
 |mk (aQ:vs=[]) (aR:Q σ H):gNil_ vs σ H Q
def gNil:TGs:=λvs σ H Q=>gNil_ vs σ H Q
inductive YHr (t:TG) (u:TGs) (vs:List V) (σ:St) (H:Hp) (Q:St->Hp->Prop):Prop where
 |mk (v:_) (r:_) (aQ:vs=v :: r) (aR:t v σ H λσ' H'=>u r σ' H' Q):YHr t u vs σ H Q
def gCons (t:TG) (u:TGs):TGs:=λvs σ H Q=>YHr t u vs σ H Q
theorem YEG:PGs X [] gNil:=by
 intro pins s σ H vs us Q I r h;obtain⟨e,h⟩:=h;subst e;cases r;exact assignInOrder_nil ⟨σ,H,I,h⟩
theorem J2 {e:Expr}{es:List Expr}{t:TG}{u:TGs} (h1:PG X e t) (h2:PGs X es u)
  (hs:(assignEach (e :: es) X.env).map (·.2)=assign e X.env :: (assignEach es X.env).map (·.2):=by rfl):PGs X (e :: es) (gCons t u):=by
 intro pins s σ H vs us Q I r h;obtain⟨v,vr,e1,h⟩:=h;subst e1;cases r with
 |cons r rr=>
  rw[hs];refine assignInOrder_cons (thn (h1 pins s σ H _ _ _ I r h) λ_ s1 ⟨σ1,H1,I1,q1⟩=>?_);exact h2 pins s1 σ1 H1 _ _ Q I1 rr q1
inductive gTup_ (K:W.Frag) (n:Nat) (t:TGs) (v:V) (σ:St) (H:Hp) (Q:St->Hp->Prop):Prop where
 |mk (a:_) (xs:_) (aQ:v=.ref a) (aR:SqT K H a xs) (bu:xs.length=n) (cM:t xs σ H Q):gTup_ K n t v σ H Q
def gTup (K:W.Frag) (n:Nat) (t:TGs):TG:=λv σ H Q=>gTup_ K n t v σ H Q
theorem pg_tup {es:List Expr}{k:Nat}{t:TGs}{n:Nat} (hc:X.calm=true) (h:PGs X es t)
  (hn:(assignEach es X.env).length=n:=by rfl) (hst:(assignEach es X.env).findIdx? (·.1)=none:=by rfl):PG X (.Tuple es k pos) (gTup X.K n t):=by
 intro pins s σ H v u Q I r hw;obtain⟨a,xs,e1,hq,hl,hw⟩:=hw;subst e1;cases r;obtain⟨its,rv,ht,hz⟩:=I.tuple hq;refine assign_Tuple_tuple (I.ok.hd hc) ht (by simp[hn,<-hl,rv.length]) hst λh' hx=>?_
 have I1:Inv X pins σ H { s with heap:=h' }:=I.kept (t':=s.toks) λb o e=>hx b o (YJc (YJJ e)) e
 exact h pins _ σ H xs _ Q I1 (by simpa using rv) hw
def tAsg (te:TE) (g:TG):TS:=λD σ H=>te σ H λx H1=>g x σ H1 D.nx
theorem YO {i:Nat}{x:Str}{e:Expr}{te:TE}{dI:Pos} (hN:X.N.Nodup) (hi:X.N[i]?=some x) (hx:Loc X.env.scope x) (he:PE X e te) (hs:swapsWith e (some (.Name x dI)) pos.line X.env=pure false:=by rfl) (hf:X.fn x=true\/X.env.scope.names.lookup x=some .local:=by first |exact .inl rfl |exact .inr rfl |assumption):
  PS X (.Assign [.Name x dI] e pos) (tAsg te (Yu i)):=by
 intro pins s σ H D I h;refine wpAny_Assign_Name (thn (he pins s σ H _ I h) λv s1 ⟨y,H1,I1,r1,q1⟩=>?_) hs;exact YAe I1 hN hi hx r1 (λs2 I2=>⟨_,H1,I2,q1⟩) hf
def tAug (i:Nat) (te:TE) (ti:TIp):TS:=λD σ H=>∃x,σ[i]?=some (some x)/\te σ H λy H1=>ti x y H1 λz H2=>D.nx (σ.set i (some z)) H2
theorem ps_aug {i:Nat}{x:Str}{e:Expr}{te:TE}{op:Operator}{ti:TIp}{dI:Pos} (hN:X.N.Nodup) (hi:X.N[i]?=some x) (hx:Loc X.env.scope x) (he:PE X e te) (ho:PIp X op ti) (hf:X.fn x=true\/X.env.scope.names.lookup x=some .local:=by first |exact .inl rfl |exact .inr rfl |assumption):
  PS X (.AugAssign (.Name x dI) op e pos) (tAug i te ti):=by
 intro pins s σ H D I h;obtain⟨v,e1,h⟩:=h;obtain⟨m,hn,hl⟩:=I.loc;have vis:Vis X.env.scope x:=by rcases hx with k |k;exact .inl k;exact .inr (.inl k)
 obtain⟨u,r,l⟩:=hl i x v hi e1 vis;refine wpAny_AugAssign_Name ?_;have go:wpAny (model X.prog X.w) X.A (eval e X.env) (λw s₂=>wpAny (model X.prog X.w) X.A (inplaceOp op u w) (λr s₃=>wpAny (model X.prog X.w) X.A (storeName X.env x r) (λ_=>SP X pins D .next) X.xe s₃) X.xe s₂) X.xe s:=by
  refine thn (he pins s σ H _ I h) λw s1 ⟨y,H1,I1,r1,q1⟩=>?_
  refine thn (ho pins s1 σ H1 v y u w _ I1 r r1 q1) λz s2 ⟨zv,H2,I2,r2,q2⟩=>?_
  exact YAe I2 hN hi hx r2 (λs3 I3=>⟨_,H2,I3,q2⟩) hf
 rcases l with ⟨hk,hm⟩ |⟨hk,c,hc,eE⟩
 ·exact wpAny_loadName_local I.ok.kind hk hn hm go
 ·rcases hk with hk |hk
  ·exact wpAny_loadName_cell I.ok.kind hk hc eE go
  ·rcases hx with k |k
   ·have:X.env.scope.names.lookup x=some .free:=hk;rw[k]at this;cases this
   ·have:X.env.scope.names.lookup x=some .free:=hk;rw[k]at this;cases this
def ipI (f:Int->Int->Int):TIp:=λx y H Q=>∃i j,x=.int i/\y=.int j/\Q (.int (f i j)) H
theorem ip_add:PIp X .Add (ipI λi j=>i + j):=by
 intro pins s σ H x y v u Q I r1 r2 h;obtain⟨i,j,e1,e2,q⟩:=h;subst e1;subst e2;obtain⟨t,rfl⟩:=r1;obtain⟨t',rfl⟩:=r2;exact iadd_int ⟨.int _,H,I.tok _,⟨_,U⟩,q⟩
end
section
variable {X:Cx}{pos:Pos}
def YHs (c:TT) (tb:TS):TS:=λD σ H=>∃W:Nat->St->Hp->Prop,(∃m,W m σ H)/\∀m σ H,W m σ H->
 c σ H λb H1=>if b=true then ∃N:St->Hp->Prop,(∀σ' H',N σ' H'->∃m',m' < m/\W m' σ' H')/\tb { D with nx:=N,ct:=N,bk:=D.nx } σ H1 else D.nx σ H1
theorem YAf {c:Expr}{body:List Stmt}{tc:TT}{tb:TS} (hp:PassesOwn (model X.prog X.w) X.A X.env X.xe) (hc:PT X c tc) (hb:PSs X body tb):PS X (.While c body [] pos) (YHs tc tb):=by
 intro pins s σ H D I h;obtain⟨W,⟨m0,w0⟩,turn⟩:=h;refine wpAny_While (codeAny_whileLoop (λn s'=>∃σ' H',Inv X pins σ' H' s'/\W n σ' H') ?_ m0 ⟨σ,H,I,w0⟩);rintro n s1 ⟨σ1,H1,I1,w1⟩;refine wpAny_passesOwn hp (thn (hc pins s1 σ1 H1 _ I1 (turn n σ1 H1 w1)) λb s2 ⟨H2,I2,q2⟩=>?_);cases b with
 |true=>
  obtain⟨N,hN,q2⟩:=q2;rw[if_pos rfl];refine wpAny_passesOwn hp (thn (hb pins s2 σ1 H2 _ I2 q2) λf s3 q3=>?_);cases f with
  |next=>
   obtain⟨σ3,H3,I3,n3⟩:=q3;obtain⟨m',hm,w3⟩:=hN σ3 H3 n3;exact⟨m',hm,σ3,H3,I3,w3⟩
  |cont=>
   obtain⟨σ3,H3,I3,n3⟩:=q3;obtain⟨m',hm,w3⟩:=hN σ3 H3 n3;exact⟨m',hm,σ3,H3,I3,w3⟩
  |brk=>exact q3
  |ret v=>exact q3
 |false=>
  rw[if_neg YJT];exact wpAny_execs_nil ⟨σ1,H2,I2,q2⟩
end
structure It where
 go:Nat->Hp->Prop
 yld:Nat->Hp->V->Hp->Prop
 stop:Nat->Hp->Prop
def YAF (X:Cx) (pins:List (Addr×Obj)) (H:Hp) (b:Addr):Prop:=
 H b=none/\b≠X.env.locals/\b∉X.fs/\(b∈X.ex\/X.s₀.heap.objs.size<=b)/\(∀x c,X.env.cells.lookup x=some c->c≠b)/\∀p∈X.pn ++ pins,p.1≠b
theorem Inv.fpOk {X:Cx}{pins:List (Addr×Obj)}{σ:St}{H H':Hp}{s:Shared}{b:Addr} (I:Inv X pins σ H s) (hb:s.heap.objs.size<=b) (hn:H' b=none):YAF X pins H' b:=by
 refine⟨hn,Nat.ne_of_gt (YJQ I.lt hb),I.nofs hb,.inr (YJR I.sz hb),λx c e z=>?_,λp hp z=>?_⟩
 ·obtain⟨v,q⟩:=I.cell x c e;exact absurd (YJQ q.lt (by rw[z];exact hb)) (YJw _)
 ·exact absurd (YJQ (YJJ (I.pin p hp).1) (by rw[z];exact hb)) (YJw _)
structure YEu (P:Program) (w:World) (K:W.Frag) (tg:Expr) (J:It) (fp:List Addr) (it:Addr) (tn:Nat->Heap->Prop):Prop where
 mem:it∈fp
 obj:∀i h,tn i h->∀b∈fp,∃o,h.get? b=some o/\∀v,o.data≠.cell v
 keep:∀i h h',tn i h->(∀b∈fp,∀o,h.get? b=some o->h'.get? b=some o)->tn i h'
 item:∀(X:Cx),X.prog=P->X.w=w->X.K=K->X.calm=true->∀(i:Nat) (pins:List (Addr×Obj)) (s:Shared) (σ:St) (H:Hp) (E:Value->Shared->Prop),Inv X pins σ H s->(∀b∈fp,YAF X pins H b)->tn i s.heap->J.go i H->
  wpAny (model P w) X.A (pyNext (.ref it)) (λr s1=>∃u,r=some u/\
   wpAny (model P w) X.A (letOwnedTupleGo tg (.ref it) u) (λ_ s2=>∃x H',Inv X pins σ H' s2/\Ym x u/\J.yld i H x H'/\tn (i + 1) s2.heap/\∀b∈fp,H' b=none) E s1) E s
 done:∀(X:Cx),X.prog=P->X.w=w->X.K=K->X.calm=true->∀(i:Nat) (pins:List (Addr×Obj)) (s:Shared) (σ:St) (H:Hp) (E:Value->Shared->Prop),Inv X pins σ H s->(∀b∈fp,YAF X pins H b)->tn i s.heap->J.stop i H->
  wpAny (model P w) X.A (pyNext (.ref it)) (λr s1=>r=none/\Inv X pins σ H s1) E s
 self:∀(A:Around) (i:Nat) (s:Shared) (Q:Value->Shared->Prop) (E:Value->Shared->Prop),tn i s.heap->Q (.ref it) s->wpAny (model P w) A (pyIter (.ref it)) Q E s
abbrev TI:=St->Hp->(It->Hp->Prop)->Prop
def PIE (X:Cx) (pins:List (Addr×Obj)) (σ:St) (tg:Expr) (R:It->Hp->Prop) (itv:Value) (s2:Shared):Prop:=
 ∃(it:Addr) (fp:List Addr) (tn:Nat->Heap->Prop) (J:It) (H':Hp),itv=.ref it/\Inv X pins σ H' s2/\YEu X.prog X.w X.K tg J fp it tn/\tn 0 s2.heap/\(∀b∈fp,YAF X pins H' b)/\R J H'
def PI (X:Cx) (tg iter:Expr) (wi:TI):Prop:=
 ∀(pins:List (Addr×Obj)) (s:Shared) (σ:St) (H:Hp) (R:It->Hp->Prop),Inv X pins σ H s->wi σ H R->
  wpAny (model X.prog X.w) X.A (eval iter X.env) (λv s1=>wpAny (model X.prog X.w) X.A (pyIter v) (PIE X pins σ tg R) X.xe s1) X.xe s
theorem YGU {M:Model}{A:Around}{E:Value->Shared->Prop}{s:Shared}{tg:Expr}{it:Addr}{u:Value}{o:Obj}{n:String}{vs:Array Value}{Q:Unit->Shared->Prop} (ho:s.heap.get? it=some o) (hc:o.cls=.type n) (hd:o.data=.fields vs)
  (hn:["enumerate","zip","dict_itemiterator","dict_reverseitemiterator","odict_iterator","itertools.zip_longest","itertools.pairwise"].contains n=false) (hQ:Q () s):wpAny M A (letOwnedTupleGo tg (.ref it) u) Q E s:=by
 unfold letOwnedTupleGo;cases tg <;> first
  |exact YJm hQ
  |(cases u <;> first
    |exact YJm hQ
    |(refine YJU (wpAny_load ho ?_)
      rw[hc,hd];show wpAny M A (if (["enumerate","zip","dict_itemiterator","dict_reverseitemiterator","odict_iterator","itertools.zip_longest","itertools.pairwise"].contains n && vs[0]? == some (rawInt _))=true then _ else _) Q E s;rw[if_neg (by intro h;rw[hn,Bool.false_and]at h;cases h)];exact YJm hQ))
def Itl (K:W.Frag) (a:Addr):It:=
 ⟨λi H=>∃xs x,SqL K H a xs/\xs[i]?=some x,λi H x H'=>H'=H/\∀xs,SqL K H a xs->xs[i]?=some x,λi H=>∃xs,SqL K H a xs/\xs.length<=i⟩
def Itt (K:W.Frag) (a:Addr):It:=
 ⟨λi H=>∃xs x,SqT K H a xs/\xs[i]?=some x,λi H x H'=>H'=H/\∀xs,SqT K H a xs->xs[i]?=some x,λi H=>∃xs,SqT K H a xs/\xs.length<=i⟩
def Itr (lo:Int) (n:Nat):It:=⟨λi _=>i < n,λi H x H'=>H'=H/\x=.int (lo + i),λi _=>n<=i⟩
theorem YHD {P:Program}{w:World}{K:W.Frag}{tg:Expr} (a it:Addr):YEu P w K tg (Itl K a) [it] it (λi h=>h.IsListIter it a i) where
 mem:=by simp
 obj:=λi h st b hb=>by
  have e:b=it:=by simpa using hb
  subst e;obtain⟨o,e,c,d⟩:=st;exact⟨o,e,λv z=>by rw[d]at z;cases z⟩
 keep:=λi h h' st k=>st.at λo e=>k it (by simp) o e
 item:=by
  intro X hP hw hK hc i pins s σ H E I hf st hg;subst hP hw hK;obtain⟨xs,x,hq,hx⟩:=hg;obtain⟨its,rv,p,hz⟩:=I.list hq;obtain⟨u,hu,ru⟩:=rv.get hx;obtain⟨f0,f1,f2,f3,f4,f5⟩:=hf it (by simp);refine wpAny_pyNext_list_item st p.isList (x:=u) (by simpa using hu) λh' st' sb=>?_
  have I1:Inv X pins σ H { s with heap:=h' }:=I.turned (t':=s.toks) (λb o hb e=>(sb.2 b hb).trans e) f0 f1 f3 f4 f5;obtain⟨o,e,c,d⟩:=id st';exact⟨u,U,YGU (s:={ s with heap:=h' }) e c d (by decide) ⟨x,H,I1,ru,⟨U,λys hy=>by rw[I.list_inj hy hq];exact hx⟩,st',λb hb=>(hf b hb).1⟩⟩
 done:=by
  intro X hP hw hK hc i pins s σ H E I hf st hg;subst hP hw hK;obtain⟨xs,hq,hx⟩:=hg;obtain⟨its,rv,p,hz⟩:=I.list hq;obtain⟨f0,f1,f2,f3,f4,f5⟩:=hf it (by simp);have hl:=rv.length;exact wpAny_pyNext_list_end (I.ok.hd hc) st p.isList (by simp;omega) λh' eb=>⟨U,I.turned (t':=s.toks) (λb o hb e=>eb b o hb e) f0 f1 f3 f4 f5⟩
 self:=λ_ _ _ _ _ st h=>wpAny_pyIter_listiter st h
theorem YFs {P:Program}{w:World}{K:W.Frag}{tg:Expr} (a it:Addr):YEu P w K tg (Itt K a) [it] it (λi h=>h.IsTupleIter it a i) where
 mem:=by simp
 obj:=λi h st b hb=>by
  have e:b=it:=by simpa using hb
  subst e;obtain⟨o,e,c,d⟩:=st;exact⟨o,e,λv z=>by rw[d]at z;cases z⟩
 keep:=λi h h' st k=>st.at λo e=>k it (by simp) o e
 item:=by
  intro X hP hw hK hc i pins s σ H E I hf st hg;subst hP hw hK;obtain⟨xs,x,hq,hx⟩:=hg;obtain⟨its,rv,p,hz⟩:=I.tuple hq;obtain⟨u,hu,ru⟩:=rv.get hx;obtain⟨f0,f1,f2,f3,f4,f5⟩:=hf it (by simp);refine wpAny_pyNext_tuple_item st (show s.heap.IsTuple a its.toArray from p) (x:=u) (by simpa using hu) λh' st' sb=>?_
  have I1:Inv X pins σ H { s with heap:=h' }:=I.turned (t':=s.toks) (λb o hb e=>(sb.2 b hb).trans e) f0 f1 f3 f4 f5;obtain⟨o,e,c,d⟩:=id st';exact⟨u,U,YGU (s:={ s with heap:=h' }) e c d (by decide) ⟨x,H,I1,ru,⟨U,λys hy=>by rw[I.tuple_inj hy hq];exact hx⟩,st',λb hb=>(hf b hb).1⟩⟩
 done:=by
  intro X hP hw hK hc i pins s σ H E I hf st hg;subst hP hw hK;obtain⟨xs,hq,hx⟩:=hg;obtain⟨its,rv,p,hz⟩:=I.tuple hq;obtain⟨f0,f1,f2,f3,f4,f5⟩:=hf it (by simp);have hl:=rv.length;exact wpAny_pyNext_tuple_end (I.ok.hd hc) st (show s.heap.IsTuple a its.toArray from p) (by simp;omega) λh' eb=>⟨U,I.turned (t':=s.toks) (λb o hb e=>eb b o hb e) f0 f1 f3 f4 f5⟩
 self:=λ_ _ _ _ _ st h=>wpAny_pyIter_tupleiter st h
theorem YFt {P:Program}{w:World}{K:W.Frag}{tg:Expr} (it:Addr) (lo:Int) (n:Nat):YEu P w K tg (Itr lo n) [it] it (λi h=>IsRangeIter h it (lo + (i:Nat) * 1) ((n:Int) - (i:Nat)) 1) where
 mem:=by simp
 obj:=λi h st b hb=>by
  have e:b=it:=by simpa using hb
  subst e;exact⟨_,st,λv z=>by
   have z':Data.fields _=Data.cell v:=z;cases z'⟩
 keep:=λi h h' st k=>k it (by simp) _ st
 item:=by
  intro X hP hw hK hc i pins s σ H E I hf st hg;subst hP hw hK;obtain⟨f0,f1,f2,f3,f4,f5⟩:=hf it (by simp);have W:=Walks.range (prog:=X.prog) (w:=X.w) (I.ok.hd hc) it lo 1 n;refine W.item i s _ _ hg st λv h' tk hv st' kk=>?_
  obtain⟨t,rfl⟩:=hv;have I1:Inv X pins σ H { s with heap:=h',toks:=tk }:=I.turned (λb o hb e=>kk b o (by simpa using hb) e) f0 f1 f3 f4 f5;refine⟨_,U,YGU (s:={ s with heap:=h',toks:=tk }) (n:="range_iterator") st' rfl rfl (by decide) ⟨.int (lo + i),H,I1,⟨t,?_⟩,⟨U,U⟩,st',λb hb=>(hf b hb).1⟩⟩;rw[Int.mul_one]
 done:=by
  intro X hP hw hK hc i pins s σ H E I hf st hg;subst hP hw hK;obtain⟨f0,f1,f2,f3,f4,f5⟩:=hf it (by simp);exact wpAny_pyNext_range_end (I.ok.hd hc) st (by have:n<=i:=hg;omega) λh' eb=>⟨U,I.turned (t':=s.toks) (λb o hb e=>eb b o hb e) f0 f1 f3 f4 f5⟩
 self:=λ_ _ _ _ _ st h=>wpAny_pyIter_rangeiter st h
end L2
namespace L2
open PySem PySem.Spec PyProof.Rows
section
variable {X:Cx}{tg:Expr}
inductive YHt (K:W.Frag) (R:It->Hp->Prop) (x:V) (H1:Hp):Prop where
 |mk (a:_) (aQ:x=.ref a) (aR:(∃xs,SqL K H1 a xs)) (bu:R (Itl K a) H1):YHt K R x H1
def iList (K:W.Frag) (tl:TE):TI:=λσ H R=>tl σ H λx H1=>YHt K R x H1
inductive iTup_ (K:W.Frag) (R:It->Hp->Prop) (x:V) (H1:Hp):Prop where
 |mk (a:_) (aQ:x=.ref a) (aR:(∃xs,SqT K H1 a xs)) (bu:R (Itt K a) H1):iTup_ K R x H1
def iTup (K:W.Frag) (tl:TE):TI:=λσ H R=>tl σ H λx H1=>iTup_ K R x H1
theorem pi_list {l:Expr}{tl:TE} (hl:PE X l tl):PI X tg l (iList X.K tl):=by
 intro pins s σ H R I h;refine thn (hl pins s σ H _ I h) λv s1 ⟨x,H1,I1,r1,q1⟩=>?_
 obtain⟨a,e,⟨xs,hq⟩,q⟩:=q1;subst e;cases r1;obtain⟨its,rv,p,hz⟩:=I1.list hq;refine wpAny_pyIter_list p.isList ?_;refine⟨s1.heap.objs.size,[s1.heap.objs.size],_,_,H1,U,I1.kept (t':=s1.toks) λb o e=>YI9 _ e,YHD a _,⟨_,YJS _ rfl,U,U⟩,λb hb=>?_,q⟩;have e:b=s1.heap.objs.size:=by simpa using hb
 subst e;exact I1.fpOk (YJB _) (I1.hok.fresh (YJB _))
theorem pi_tup {l:Expr}{tl:TE} (hl:PE X l tl):PI X tg l (iTup X.K tl):=by
 intro pins s σ H R I h;refine thn (hl pins s σ H _ I h) λv s1 ⟨x,H1,I1,r1,q1⟩=>?_
 obtain⟨a,e,⟨xs,hq⟩,q⟩:=q1;subst e;cases r1;obtain⟨its,rv,p,hz⟩:=I1.tuple hq;refine wpAny_pyIter_tuple (show s1.heap.IsTuple a its.toArray from p) ?_;refine⟨s1.heap.objs.size,[s1.heap.objs.size],_,_,H1,U,I1.kept (t':=s1.toks) λb o e=>YI9 _ e,YFs a _,⟨_,YJS _ rfl,U,U⟩,λb hb=>?_,q⟩;have e:b=s1.heap.objs.size:=by simpa using hb
 subst e;exact I1.fpOk (YJB _) (I1.hok.fresh (YJB _))
theorem YEv {pins:List (Addr×Obj)}{σ:St}{H:Hp}{s:Shared}{R:It->Hp->Prop}{E:Value->Shared->Prop}{lo hi:Int}{t u v:Tok}{tk:Nat} (I:Inv X pins σ H s) (h1:-(2 ^ 62)<=lo) (h2:lo < 2 ^ 62) (h3:-(2 ^ 62)<=hi) (h4:hi < 2 ^ 62)
  (q:R (Itr lo (hi - lo).toNat) H):wpAny (model X.prog X.w) X.A (pyIter (.ref s.heap.objs.size)) (PIE X pins σ tg R) E { s with heap:=s.heap.push { cls:=.type "range",data:=.fields #[.int lo t,.int hi u,.int 1 v] },toks:=tk }:=by
 refine wpAny_pyIter_range (IsRange.new ..) (small_one h1 h2 h3 h4) ?_;have I1:Inv X pins σ H { s with heap:=s.heap.push { cls:=.type "range",data:=.fields #[.int lo t,.int hi u,.int 1 v] },toks:=tk }:=I.kept λb o e=>YI9 _ e
 refine⟨(s.heap.push { cls:=.type "range",data:=.fields #[.int lo t,.int hi u,.int 1 v] }).objs.size,[(s.heap.push { cls:=.type "range",data:=.fields #[.int lo t,.int hi u,.int 1 v] }).objs.size],_,_,H,U,
  I1.kept (t':=tk) λb o e=>YI9 _ e,YFt _ lo (hi - lo).toNat,?_,λb hb=>?_,q⟩
 ·have e1:lo + ((0:Nat):Int) * 1=lo:=by simp
  have e2:(((hi - lo).toNat:Nat):Int) - ((0:Nat):Int)=Builtin.Range.rangeSize lo hi 1:=by rw[rangeSize_one];split <;> omega
  show IsRangeIter _ _ (lo + ((0:Nat):Int) * 1) ((((hi - lo).toNat:Nat):Int) - ((0:Nat):Int)) 1;rw[e1,e2];exact YJS _ rfl
 ·have e:b=(s.heap.push { cls:=.type "range",data:=.fields #[.int lo t,.int hi u,.int 1 v] }).objs.size:=by simpa using hb
  subst e;exact I1.fpOk (YJB _) (I1.hok.fresh (YJB _))
inductive YHu (R:It->Hp->Prop) (vs:List V) (H1:Hp):Prop where
 |mk (j:Int) (aQ:vs=[.int j]) (aR:-(2 ^ 62)<=j) (bu:j < 2 ^ 62) (cM:R (Itr 0 j.toNat) H1):YHu R vs H1
def iRng1 (ta:TA):TI:=λσ H R=>ta σ H λvs H1=>YHu R vs H1
inductive YHv (R:It->Hp->Prop) (vs:List V) (H1:Hp):Prop where
 |mk (i:Int) (j:Int) (aQ:vs=[.int i,.int j]) (aR:(-(2 ^ 62)<=i/\i < 2 ^ 62/\-(2 ^ 62)<=j/\j < 2 ^ 62)) (bu:R (Itr i (j - i).toNat) H1):YHv R vs H1
def iRng2 (ta:TA):TI:=λσ H R=>ta σ H λvs H1=>YHv R vs H1
theorem J3 {a:Expr}{ta:TA}{p pos:Pos} (hg:Gl X "range") (hm:X.mg "range"=none) (ha:PA X [a] ta) (hs:starEach [a] X.env=[(false,eval a X.env)]:=by rfl):PI X tg (.Call (.Name "range" p) [a] [] pos) (iRng1 ta):=by
 intro pins s σ H R I h;refine Call_ (YAQ I hg hm boot_range (PyProof.Rows.callWith_type1 (thn (ha pos pins s σ H _ I h) λus s1 ⟨vs,H1,I1,r1,q1⟩=>?_) hs rfl));obtain⟨j,e,q1,q2,q⟩:=q1;subst e;cases r1 with
 |cons r rr=>
  cases rr;obtain⟨t,rfl⟩:=r;exact call_range_1 (YEv I1 (by omega) (by omega) q1 q2 (by simpa using q))
theorem YHE {a b:Expr}{ta:TA}{p pos:Pos} (hg:Gl X "range") (hm:X.mg "range"=none) (ha:PA X [a,b] ta) (hs:starEach [a,b] X.env=[(false,eval a X.env),(false,eval b X.env)]:=by rfl) (hs2:starEach [b] X.env=[(false,eval b X.env)]:=by rfl):
  PI X tg (.Call (.Name "range" p) [a,b] [] pos) (iRng2 ta):=by
 intro pins s σ H R I h;refine Call_ (YAQ I hg hm boot_range (PyProof.Rows.callWith_type1 (thn (ha pos pins s σ H _ I h) λus s1 ⟨vs,H1,I1,r1,q1⟩=>?_) (by rw[hs,hs2]) (by rw[hs2];rfl)));obtain⟨i,j,e,⟨q1,q2,q3,q4⟩,q⟩:=q1;subst e;cases r1 with
 |cons r rr=>
  cases rr with
  |cons r' rr=>
   cases rr;obtain⟨t,rfl⟩:=r;obtain⟨t',rfl⟩:=r';exact call_range_2 (YEv I1 q1 q2 q3 q4 q)
def tFor (wi:TI) (g:TG) (tb:TS):TS:=λD σ H=>wi σ H λJ H1=>∃W:Nat->Nat->St->Hp->Prop,(∃m,W 0 m σ H1)/\∀i m σ H,W i m σ H->
 (J.stop i H/\D.nx σ H)\/(J.go i H/\∃N:St->Hp->Prop,(∀σ' H',N σ' H'->∃m',m' < m/\W (i + 1) m' σ' H')/\∀x H',J.yld i H x H'->g x σ H' λσ2 H2=>tb { D with nx:=N,ct:=N,bk:=D.nx } σ2 H2)
def YA6 (fp:List Addr) (h:Heap):List (Addr×Obj):=fp.filterMap λb=>(h.get? b).map λo=>(b,o)
theorem Zl {fp:List Addr}{h:Heap}{b:Addr}{o:Obj} (hb:b∈fp) (e:h.get? b=some o):(b,o)∈YA6 fp h:=YKU.mpr ⟨b,hb,by rw[e];rfl⟩
theorem YHF {fp:List Addr}{h:Heap}{p:Addr×Obj} (hp:p∈YA6 fp h):p.1∈fp/\h.get? p.1=some p.2:=by
 obtain⟨b,hb,e⟩:=YKU.mp hp;cases q:h.get? b with
 |none=>rw[q]at e;cases e
 |some o=>
  rw[q]at e;have e':(b,o)=p:=YJf e;subst e';exact⟨hb,q⟩
theorem Inv.pinned {pins:List (Addr×Obj)}{σ:St}{H:Hp}{s:Shared}{fp:List Addr} (I:Inv X pins σ H s) (hf:∀b∈fp,YAF X pins H b) (ho:∀b∈fp,∃o,s.heap.get? b=some o/\∀v,o.data≠.cell v):Inv X (pins ++ YA6 fp s.heap) σ H s:=
 I.pins_of λp hp=>(YJg.mp hp).elim (λz=>I.pin p (YJX _ z)) λz=>by
  obtain⟨hb,e⟩:=YHF z;obtain⟨f0,f1,f2,_⟩:=hf p.1 hb;obtain⟨o,e',d⟩:=ho p.1 hb;rw[e]at e';cases e';exact⟨e,f0,f1,f2,d⟩
theorem Inv.unpinned {pins pl:List (Addr×Obj)}{σ:St}{H:Hp}{s:Shared} (I:Inv X (pins ++ pl) σ H s):Inv X pins σ H s:=I.pins_of λp hp=>I.pin p (YJX _ (List.mem_append_left _ hp))
theorem Z3 {iter:Expr}{body:List Stmt}{wi:TI}{g:TG}{tb:TS}{pos:Pos} (hp:PassesOwn (model X.prog X.w) X.A X.env X.xe) (hc:X.calm=true) (hi:PI X tg iter wi) (hg:PG X tg g) (hb:PSs X body tb)
  (hs:∀x,foldedSetIterable iter X.env x=pure x:=by intro _;rfl):PS X (.For tg iter body [] pos) (tFor wi g tb):=by
 intro pins s σ H D I h;refine wpAny_For (thn (hi pins s σ H _ I h) λv s1 h1=>thn h1 λitv s2 h2=>?_) hs;obtain⟨it,fp,tn,J,H2,e,I2,T,iD,f2,W,⟨m0,w0⟩,turn⟩:=h2;subst e;have iw:∀{H':Hp},(∀b∈fp,H' b=none)->∀b∈fp,YAF X pins H' b:=λhn b hb=>⟨hn b hb,(f2 b hb).2⟩
 refine codeAny_forLoop_any (λn s'=>∃i σ' H',Inv X pins σ' H' s'/\tn i s'.heap/\(∀b∈fp,H' b=none)/\W i n σ' H') ?_ m0 ⟨0,σ,H2,I2,iD,λb hb=>(f2 b hb).1,w0⟩;rintro n s3 ⟨i,σ3,H3,I3,vL,vM,w3⟩;rcases turn i n σ3 H3 w3 with ⟨stop,qn⟩ |⟨go,N,hN,step⟩
 ·refine wpAny_passesOwn hp (thn (T.done X rfl rfl rfl hc i pins s3 σ3 H3 X.xe I3 (iw vM) vL stop) λr s4 ⟨hr,I4⟩=>?_);subst hr;exact wpAny_execs_nil ⟨σ3,H3,I4,qn⟩
 ·refine wpAny_passesOwn hp (thn (T.item X rfl rfl rfl hc i pins s3 σ3 H3 X.xe I3 (iw vM) vL go) λr s4 ⟨u,hr,h4⟩=>?_);subst hr;refine wpAny_passesOwn hp (thn h4 ?_);rintro _ s5 ⟨x,H5,I5,r5,y5,uH,yE⟩;have I5':=I5.pinned (iw yE) (T.obj _ _ uH);refine wpAny_passesOwn hp (thn (hg _ s5 σ3 H5 x u _ I5' r5 (step x H5 y5)) λ_ s6 ⟨σ6,H6,I6,q6⟩=>?_);refine wpAny_passesOwn hp (thn (hb _ s6 σ6 H6 _ I6 q6) λf s7 q7=>?_);have again:∀{σ7:St}{H7:Hp},Inv X (pins ++ YA6 fp s5.heap) σ7 H7 s7->N σ7 H7->∃m,m < n/\∃i σ' H',Inv X pins σ' H' s7/\tn i s7.heap/\(∀b∈fp,H' b=none)/\W i m σ' H':=λ{σ7 H7} I7 n7=>by
   obtain⟨m',hm,w7⟩:=hN σ7 H7 n7;refine⟨m',hm,i + 1,σ7,H7,I7.unpinned,T.keep _ _ _ uH λb hb o e=>(I7.pin (b,o) (YJX _ (YJX _ (Zl hb e)))).1,λb hb=>?_,w7⟩;obtain⟨o,e,d⟩:=T.obj _ _ uH b hb;exact(I7.pin (b,o) (YJX _ (YJX _ (Zl hb e)))).2.1
  cases f with
  |next=>obtain⟨σ7,H7,I7,n7⟩:=q7;exact again I7 n7
  |cont=>obtain⟨σ7,H7,I7,n7⟩:=q7;exact again I7 n7
  |brk=>obtain⟨σ7,H7,I7,q7⟩:=q7;exact⟨σ7,H7,I7.unpinned,q7⟩
  |ret v=>obtain⟨x7,σ7,H7,I7,r7,q7⟩:=q7;exact⟨x7,σ7,H7,I7.unpinned,r7,q7⟩
end
theorem YCK {K:W.Frag}{a:Addr}{xs:List V}{g:TG}{tb:TS}{D:YAP}{σ:St}{H:Hp} (Pv:Nat->St->Hp->Prop) (h0:Pv 0 σ H) (hl:∀i σ H,i<=xs.length->Pv i σ H->SqL K H a xs)
  (hs:∀i x σ H,xs[i]?=some x->Pv i σ H->g x σ H λσ2 H2=>tb { D with nx:=Pv (i + 1),ct:=Pv (i + 1),bk:=D.nx } σ2 H2) (hd:∀σ H,Pv xs.length σ H->D.nx σ H):
  ∃W:Nat->Nat->St->Hp->Prop,(∃m,W 0 m σ H)/\∀i m σ H,W i m σ H->
   ((Itl K a).stop i H/\D.nx σ H)\/((Itl K a).go i H/\∃N:St->Hp->Prop,(∀σ' H',N σ' H'->∃m',m' < m/\W (i + 1) m' σ' H')/\∀x H',(Itl K a).yld i H x H'->g x σ H' λσ2 H2=>tb { D with nx:=N,ct:=N,bk:=D.nx } σ2 H2):=by
 refine⟨λi m σ H=>m=xs.length - i/\i<=xs.length/\Pv i σ H,⟨xs.length,by simp,YJh _,h0⟩,?_⟩;rintro i m σ H ⟨rfl,hi,p⟩;have q:=hl i σ H hi p
 by_cases hlt:i < xs.length
 ·refine .inr ⟨⟨xs,xs[i],q,by simp[hlt]⟩,Pv (i + 1),λσ' H' p'=>⟨xs.length - (i + 1),by omega,U,hlt,p'⟩,λx H' y=>?_⟩;obtain⟨e,y⟩:=y;subst e;exact hs i x σ _ (y xs q) p
 ·have e:i=xs.length:=by omega
  subst e;exact .inl ⟨⟨xs,q,YJB _⟩,hd σ H p⟩
theorem YEH {K:W.Frag}{a:Addr}{xs:List V}{g:TG}{tb:TS}{D:YAP}{σ:St}{H:Hp} (Pv:Nat->St->Hp->Prop) (h0:Pv 0 σ H) (hl:∀i σ H,i<=xs.length->Pv i σ H->SqT K H a xs)
  (hs:∀i x σ H,xs[i]?=some x->Pv i σ H->g x σ H λσ2 H2=>tb { D with nx:=Pv (i + 1),ct:=Pv (i + 1),bk:=D.nx } σ2 H2) (hd:∀σ H,Pv xs.length σ H->D.nx σ H):
  ∃W:Nat->Nat->St->Hp->Prop,(∃m,W 0 m σ H)/\∀i m σ H,W i m σ H->
   ((Itt K a).stop i H/\D.nx σ H)\/((Itt K a).go i H/\∃N:St->Hp->Prop,(∀σ' H',N σ' H'->∃m',m' < m/\W (i + 1) m' σ' H')/\∀x H',(Itt K a).yld i H x H'->g x σ H' λσ2 H2=>tb { D with nx:=N,ct:=N,bk:=D.nx } σ2 H2):=by
 refine⟨λi m σ H=>m=xs.length - i/\i<=xs.length/\Pv i σ H,⟨xs.length,by simp,YJh _,h0⟩,?_⟩;rintro i m σ H ⟨rfl,hi,p⟩;have q:=hl i σ H hi p
 by_cases hlt:i < xs.length
 ·refine .inr ⟨⟨xs,xs[i],q,by simp[hlt]⟩,Pv (i + 1),λσ' H' p'=>⟨xs.length - (i + 1),by omega,U,hlt,p'⟩,λx H' y=>?_⟩;obtain⟨e,y⟩:=y;subst e;exact hs i x σ _ (y xs q) p
 ·have e:i=xs.length:=by omega
  subst e;exact .inl ⟨⟨xs,q,YJB _⟩,hd σ H p⟩
theorem X4 {lo:Int}{n:Nat}{g:TG}{tb:TS}{D:YAP}{σ:St}{H:Hp} (Pv:Nat->St->Hp->Prop) (h0:Pv 0 σ H)
  (hs:∀i σ H,i < n->Pv i σ H->g (.int (lo + i)) σ H λσ2 H2=>tb { D with nx:=Pv (i + 1),ct:=Pv (i + 1),bk:=D.nx } σ2 H2) (hd:∀σ H,Pv n σ H->D.nx σ H):
  ∃W:Nat->Nat->St->Hp->Prop,(∃m,W 0 m σ H)/\∀i m σ H,W i m σ H->
   ((Itr lo n).stop i H/\D.nx σ H)\/((Itr lo n).go i H/\∃N:St->Hp->Prop,(∀σ' H',N σ' H'->∃m',m' < m/\W (i + 1) m' σ' H')/\∀x H',(Itr lo n).yld i H x H'->g x σ H' λσ2 H2=>tb { D with nx:=N,ct:=N,bk:=D.nx } σ2 H2):=by
 refine⟨λi m σ H=>m=n - i/\i<=n/\Pv i σ H,⟨n,by simp,YJh _,h0⟩,?_⟩;rintro i m σ H ⟨rfl,hi,p⟩
 by_cases hlt:i < n
 ·refine .inr ⟨hlt,Pv (i + 1),λσ' H' p'=>⟨n - (i + 1),by omega,U,hlt,p'⟩,λx H' y=>?_⟩;obtain⟨e,y⟩:=y;subst e y;exact hs i σ _ hlt p
 ·have e:i=n:=by omega
  subst e;exact .inl ⟨YJB _,hd σ H p⟩
theorem YCL {c:TT}{tb:TS}{D:YAP}{σ:St}{H:Hp} (Pv:St->Hp->Prop) (μ:St->Hp->Nat) (h0:Pv σ H)
  (hs:∀σ H,Pv σ H->c σ H λb H1=>if b=true then tb { D with nx:=λσ' H'=>Pv σ' H'/\μ σ' H' < μ σ H,ct:=λσ' H'=>Pv σ' H'/\μ σ' H' < μ σ H,bk:=D.nx } σ H1 else D.nx σ H1)
  (mono:∀σ H Q Q',(∀b H1,Q b H1->Q' b H1)->c σ H Q->c σ H Q'):YHs c tb D σ H:=by
 refine⟨λm σ H=>m=μ σ H/\Pv σ H,⟨_,U,h0⟩,?_⟩;rintro m σ H ⟨rfl,p⟩;refine mono σ H _ _ (λb H1 q=>?_) (hs σ H p);cases b with
 |true=>exact⟨_,λσ' H' ⟨p',l⟩=>⟨_,l,U,p'⟩,q⟩
 |false=>exact q
end L2
namespace L2
open PySem PySem.Spec PyProof.Rows
abbrev R2:=V->V->Hp->VK->Prop
def OpR (X:Cx) (f:Value->Value->Sem Value) (r:R2):Prop:=
 ∀(pins:List (Addr×Obj)) (s:Shared) (σ:St) (H:Hp) (x y:V) (v u:Value) (Q:VK),Inv X pins σ H s->Ym x v->Ym y u->r x y H Q->
  wpAny (model X.prog X.w) X.A (f v u) (EP X pins σ Q) X.xe s
def UnR (X:Cx) (f:Value->Sem Value) (r:V->Hp->VK->Prop):Prop:=
 ∀(pins:List (Addr×Obj)) (s:Shared) (σ:St) (H:Hp) (x:V) (v:Value) (Q:VK),Inv X pins σ H s->Ym x v->r x H Q->
  wpAny (model X.prog X.w) X.A (f v) (EP X pins σ Q) X.xe s
def Zr (X:Cx) (f:Value) (r:List V->Hp->VK->Prop):Prop:=
 ∀(pins:List (Addr×Obj)) (s:Shared) (σ:St) (H:Hp) (xs:List V) (us:List Value) (Q:VK),Inv X pins σ H s->Yi xs us->r xs H Q->
  wpAny (model X.prog X.w) X.A (call f us) (EP X pins σ Q) X.xe s
def TruR (X:Cx) (r:V->Hp->(Bool->Hp->Prop)->Prop):Prop:=
 ∀(pins:List (Addr×Obj)) (s:Shared) (σ:St) (H:Hp) (x:V) (v:Value) (Q:Bool->Hp->Prop),Inv X pins σ H s->Ym x v->r x H Q->
  wpAny (model X.prog X.w) X.A (truthy v) (TP X pins σ Q) X.xe s
def tOp (r:R2) (ta tb:TE):TE:=λσ H Q=>ta σ H λx H1=>tb σ H1 λy H2=>r x y H2 Q
def tUn (r:V->Hp->VK->Prop) (ta:TE):TE:=λσ H Q=>ta σ H λx H1=>r x H1 Q
inductive rI_ (C:Int->Int->Prop) (g:Int->Int->V) (x:V) (y:V) (H:Hp) (Q:VK):Prop where
 |mk (i:_) (j:_) (aQ:x=.int i) (aR:y=.int j) (bu:C i j) (cM:Q (g i j) H):rI_ C g x y H Q
def rI (C:Int->Int->Prop) (g:Int->Int->V):R2:=λx y H Q=>rI_ C g x y H Q
inductive rI0_ (g:Int->Int->V) (x:V) (y:V) (H:Hp) (Q:VK):Prop where
 |mk (i:_) (j:_) (aQ:x=.int i) (aR:y=.int j) (bu:Q (g i j) H):rI0_ g x y H Q
def rI0 (g:Int->Int->V):R2:=λx y H Q=>rI0_ g x y H Q
inductive rU_ (g:Int->V) (x:V) (H:Hp) (Q:VK):Prop where
 |mk (i:_) (aQ:x=.int i) (aR:Q (g i) H):rU_ g x H Q
def rU (g:Int->V):V->Hp->VK->Prop:=λx H Q=>rU_ g x H Q
section
variable {X:Cx}{a b c:Expr}{ta tb tc:TE}{pos:Pos}
theorem binT (ha:PE X a ta) (hb:PE X b tb) {pins:List (Addr×Obj)}{s:Shared}{σ:St}{H:Hp}{R:V->V->Hp->Prop} (I:Inv X pins σ H s)
  (h:ta σ H λx H1=>tb σ H1 λy H2=>R x y H2) {Q:Value->Shared->Prop}{f:Value->Value->Sem Value}
  (hf:∀v u s2 x y H2,Inv X pins σ H2 s2->Ym x v->Ym y u->R x y H2->wpAny (model X.prog X.w) X.A (f v u) Q X.xe s2):
  wpAny (model X.prog X.w) X.A (eval a X.env) (λv s₁=>wpAny (model X.prog X.w) X.A (eval b X.env) (λu s₂=>wpAny (model X.prog X.w) X.A (f v u) Q X.xe s₂) X.xe s₁) X.xe s:=by
 refine thn (ha pins s σ H _ I h) λv s1 ⟨x,H1,I1,r1,q1⟩=>?_
 refine thn (hb pins s1 σ H1 _ I1 q1) λu s2 ⟨y,H2,I2,r2,q2⟩=>?_
 exact hf v u s2 x y H2 I2 r1 r2 q2
theorem YL {op:Operator}{r:R2} (ho:OpR X (binaryOp op) r) (ha:PE X a ta) (hb:PE X b tb):PE X (.BinOp a op b pos) (tOp r ta tb):=by
 intro pins s σ H Q I h;exact wpAny_BinOp (binT ha hb I h λv u s2 x y H2 I2 rx ry q=>ho pins s2 σ H2 x y v u Q I2 rx ry q)
theorem pe_un {op:UnaryOp}{r:V->Hp->VK->Prop} (ho:UnR X (unaryOp op) r) (ha:PE X a ta):PE X (.UnaryOp op a pos) (tUn r ta):=by
 intro pins s σ H Q I h;exact UnaryOp_ (thn (ha pins s σ H _ I h) λv s1 ⟨x,H1,I1,r1,q1⟩=>ho pins s1 σ H1 x v Q I1 r1 q1)
theorem opI {f:Value->Value->Sem Value}{C:Int->Int->Prop}{g:Int->Int->Int}
  (rule:∀(i j:Int) (t u:Tok) (s:Shared) (Q:Value->Shared->Prop) (E:Value->Shared->Prop),C i j->Q (.int (g i j) s.toks) { s with toks:=s.toks + 1 }->wpAny (model X.prog X.w) X.A (f (.int i t) (.int j u)) Q E s):
  OpR X f (rI C λi j=>.int (g i j)):=by
 intro pins s σ H x y v u Q I rx ry h;obtain⟨i,j,rfl,rfl,hc,q⟩:=h;obtain⟨t,rfl⟩:=rx;obtain⟨t',rfl⟩:=ry;exact rule i j t t' s _ _ hc ⟨.int (g i j),H,I.tok _,⟨_,U⟩,q⟩
theorem opI0 {f:Value->Value->Sem Value}{g:Int->Int->Int}
  (rule:∀(i j:Int) (t u:Tok) (s:Shared) (Q:Value->Shared->Prop) (E:Value->Shared->Prop),Q (.int (g i j) s.toks) { s with toks:=s.toks + 1 }->wpAny (model X.prog X.w) X.A (f (.int i t) (.int j u)) Q E s):
  OpR X f (rI0 λi j=>.int (g i j)):=by
 intro pins s σ H x y v u Q I rx ry h;obtain⟨i,j,rfl,rfl,q⟩:=h;obtain⟨t,rfl⟩:=rx;obtain⟨t',rfl⟩:=ry;exact rule i j t t' s _ _ ⟨.int (g i j),H,I.tok _,⟨_,U⟩,q⟩
theorem opB0 {f:Value->Value->Sem Value}{g:Int->Int->Bool}
  (rule:∀(i j:Int) (t u:Tok) (s:Shared) (Q:Value->Shared->Prop) (E:Value->Shared->Prop),Q (.bool (g i j)) s->wpAny (model X.prog X.w) X.A (f (.int i t) (.int j u)) Q E s):
  OpR X f (rI0 λi j=>.bl (g i j)):=by
 intro pins s σ H x y v u Q I rx ry h;obtain⟨i,j,rfl,rfl,q⟩:=h;obtain⟨t,rfl⟩:=rx;obtain⟨t',rfl⟩:=ry;exact rule i j t t' s _ _ ⟨.bl (g i j),H,I,U,q⟩
def CDiv (i j:Int):Prop:=0 < j/\j < 1073741824
def CPow (i j:Int):Prop:=0<=j/\j<=1000000/\i.natAbs < 2 ^ 64
def CMul (i j:Int):Prop:=(-(2 ^ 64) < i/\i < 2 ^ 64)\/(-(2 ^ 64) < j/\j < 2 ^ 64)
theorem CMul.ok {i j:Int} (h:CMul i j):IntMulOk i j:=by
 rcases h with ⟨h1,h2⟩ |⟨h1,h2⟩
 ·exact .of_left (intBits_le_64 h1 h2)
 ·exact .of_right (intBits_le_64 h1 h2)
theorem ZD:OpR X (binaryOp .Add) (rI0 λi j=>.int (i + j)):=opI0 λ_ _ _ _ _ _ _ q=>add_int q
theorem YEI:OpR X (binaryOp .Sub) (rI0 λi j=>.int (i - j)):=opI0 λ_ _ _ _ _ _ _ q=>sub_int q
theorem YAR:OpR X (binaryOp .Mult) (rI CMul λi j=>.int (i * j)):=opI λ_ _ _ _ _ _ _ hc q=>mul_int q hc.ok
theorem Y9:OpR X (binaryOp .FloorDiv) (rI CDiv λi j=>.int (i / j)):=opI λi j _ _ _ _ _ hc q=>by
 have h1:(0:Int) < j:=hc.1;have h2:j < 1073741824:=hc.2;exact floordiv_int (by omega) (by rw[Int.fdiv_eq_ediv_of_nonneg i (by omega)];exact q) (.inl (PyProof.noPylong_small (by omega)))
theorem Y1:OpR X (binaryOp .Mod) (rI (λ_ j=>0 < j) λi j=>.int (i % j)):=opI λi j _ _ _ _ _ hc q=>by
 have h1:(0:Int) < j:=hc;exact mod_int' (by omega) (by rw[Int.fmod_eq_emod_of_nonneg i (by omega)];exact q)
theorem YHw:OpR X (binaryOp .Pow) (rI CPow λi j=>.int (i ^ j.toNat)):=opI λ_ _ _ _ _ _ _ hc q=>pow_int_small hc.1 hc.2.1 hc.2.2 q
theorem unI {f:Value->Sem Value}{g:Int->Int}
  (rule:∀(i:Int) (t:Tok) (s:Shared) (Q:Value->Shared->Prop) (E:Value->Shared->Prop),Q (.int (g i) s.toks) { s with toks:=s.toks + 1 }->wpAny (model X.prog X.w) X.A (f (.int i t)) Q E s):
  UnR X f (rU λi=>.int (g i)):=by
 intro pins s σ H x v Q I rx h;obtain⟨i,rfl,q⟩:=h;obtain⟨t,rfl⟩:=rx;exact rule i t s _ _ ⟨.int (g i),H,I.tok _,⟨_,U⟩,q⟩
theorem YFu:UnR X (unaryOp .USub) (rU λi=>.int (-i)):=unI λ_ _ _ _ _ q=>neg_int q
end
def scal:V->V->Bool
 |.non,.non=>true |.non,.int _=>true |.int _,.non=>true |.non,.bl _=>true |.bl _,.non=>true |.non,.str _=>true |.str _,.non=>true
 |.int _,.int _=>true |.bl _,.bl _=>true |.str _,.str _=>true |.byt _,.byt _=>true
 |.int _,.str _=>true |.str _,.int _=>true |.bl _,.str _=>true |.str _,.bl _=>true
 |_,_=>false
inductive rEq_ (x:V) (y:V) (H:Hp) (Q:VK):Prop where
 |mk (aQ:scal x y=true) (aR:Q (.bl (decide (x=y))) H):rEq_ x y H Q
def rEq:R2:=λx y H Q=>rEq_ x y H Q
inductive rNe_ (x:V) (y:V) (H:Hp) (Q:VK):Prop where
 |mk (aQ:scal x y=true) (aR:Q (.bl (!decide (x=y))) H):rNe_ x y H Q
def rNe:R2:=λx y H Q=>rNe_ x y H Q
theorem YGV {i j:Int}:decide (V.int i=V.int j)=(i == j):=by
 rw[YJ9];simp
theorem YHx {i j:Bool}:decide (V.bl i=V.bl j)=(i == j):=by
 rw[YJ9];simp
theorem dec_str {i j:Str}:decide (V.str i=V.str j)=(i == j):=by
 rw[YJ9];simp
theorem YGW {i j:Array UInt8}:decide (V.byt i=V.byt j)=(i.toList == j.toList):=by
 rw[YJ9];cases i;cases j;simp
section
variable {X:Cx}{a b c:Expr}{ta tb tc:TE}{pos:Pos}
theorem Yn {pins:List (Addr×Obj)}{σ:St}{H:Hp}{s:Shared}{Q:VK}{k k':Bool} (I:Inv X pins σ H s) (q:Q (.bl k) H) (e:k=k'):EP X pins σ Q (.bool k') s:=by
 subst e;exact⟨.bl k,H,I,U,q⟩
theorem JE:OpR X (compareOp .Eq) rEq:=by
 intro pins s σ H x y v u Q I rx ry h;obtain⟨hs,q⟩:=h;cases x with
 |non=>
  cases rx;cases y with
  |non=>cases ry;exact PySem.EqNone.eq_none_none (Yn I q (by simp))
  |bl j=>cases ry;exact PySem.EqNone.eq_none_bool (Yn I q (by simp))
  |int j=>obtain⟨t',rfl⟩:=ry;exact PySem.EqNone.eq_none_int (Yn I q (by simp))
  |str j=>obtain⟨t',rfl⟩:=ry;exact PySem.EqNone.eq_none_str (Yn I q (by simp))
  |_=>exact absurd (show false=true from hs) YJT
 |bl i=>
  cases rx;cases y with
  |non=>cases ry;exact PySem.EqNone.eq_bool_none (Yn I q (by simp))
  |bl j=>cases ry;exact eq_bool (Yn I q YHx)
  |str j=>obtain⟨t',rfl⟩:=ry;exact PySem.EqMixed.eq_bool_str (Yn I q (by simp))
  |_=>exact absurd (show false=true from hs) YJT
 |int i=>
  obtain⟨t,rfl⟩:=rx;cases y with
  |non=>cases ry;exact PySem.EqNone.eq_int_none (Yn I q (by simp))
  |int j=>obtain⟨t',rfl⟩:=ry;exact eq_int (Yn I q YGV)
  |str j=>obtain⟨t',rfl⟩:=ry;exact PySem.EqMixed.eq_int_str (Yn I q (by simp))
  |_=>exact absurd (show false=true from hs) YJT
 |str i=>
  obtain⟨t,rfl⟩:=rx;cases y with
  |non=>cases ry;exact PySem.EqNone.eq_str_none (Yn I q (by simp))
  |bl j=>cases ry;exact PySem.EqMixed.eq_str_bool (Yn I q (by simp))
  |int j=>obtain⟨t',rfl⟩:=ry;exact PySem.EqMixed.eq_str_int (Yn I q (by simp))
  |str j=>obtain⟨t',rfl⟩:=ry;exact eq_str (Yn I q dec_str)
  |_=>exact absurd (show false=true from hs) YJT
 |byt i=>
  obtain⟨t,rfl⟩:=rx;cases y with
  |byt j=>obtain⟨t',rfl⟩:=ry;exact PySem.W.eq_bytes (Yn I q YGW)
  |_=>exact absurd (show false=true from hs) YJT
 |_=>cases y <;> exact absurd (show false=true from hs) YJT
theorem YDa:OpR X (compareOp .NotEq) rNe:=by
 intro pins s σ H x y v u Q I rx ry h;obtain⟨hs,q⟩:=h;cases x with
 |non=>
  cases rx;cases y with
  |non=>cases ry;exact PySem.EqNone.ne_none_none (Yn I q (by simp))
  |bl j=>cases ry;exact PySem.EqNone.ne_none_bool (Yn I q (by simp))
  |int j=>obtain⟨t',rfl⟩:=ry;exact PySem.EqNone.ne_none_int (Yn I q (by simp))
  |str j=>obtain⟨t',rfl⟩:=ry;exact PySem.EqNone.ne_none_str (Yn I q (by simp))
  |_=>exact absurd (show false=true from hs) YJT
 |bl i=>
  cases rx;cases y with
  |non=>cases ry;exact PySem.EqNone.ne_bool_none (Yn I q (by simp))
  |bl j=>cases ry;exact ne_bool (Yn I q (YJ2 not YHx))
  |str j=>obtain⟨t',rfl⟩:=ry;exact PySem.EqMixed.ne_bool_str (Yn I q (by simp))
  |_=>exact absurd (show false=true from hs) YJT
 |int i=>
  obtain⟨t,rfl⟩:=rx;cases y with
  |non=>cases ry;exact PySem.EqNone.ne_int_none (Yn I q (by simp))
  |int j=>obtain⟨t',rfl⟩:=ry;exact ne_int (Yn I q (YJ2 not YGV))
  |str j=>obtain⟨t',rfl⟩:=ry;exact PySem.EqMixed.ne_int_str (Yn I q (by simp))
  |_=>exact absurd (show false=true from hs) YJT
 |str i=>
  obtain⟨t,rfl⟩:=rx;cases y with
  |non=>cases ry;exact PySem.EqNone.ne_str_none (Yn I q (by simp))
  |bl j=>cases ry;exact PySem.EqMixed.ne_str_bool (Yn I q (by simp))
  |int j=>obtain⟨t',rfl⟩:=ry;exact PySem.EqMixed.ne_str_int (Yn I q (by simp))
  |str j=>obtain⟨t',rfl⟩:=ry;exact ne_str (Yn I q (YJ2 not dec_str))
  |_=>exact absurd (show false=true from hs) YJT
 |byt i=>
  obtain⟨t,rfl⟩:=rx;cases y with
  |byt j=>obtain⟨t',rfl⟩:=ry;exact PySem.W.ne_bytes (Yn I q (YJ2 not YGW))
  |_=>exact absurd (show false=true from hs) YJT
 |_=>cases y <;> exact absurd (show false=true from hs) YJT
theorem YCM:OpR X (compareOp .Lt) (rI0 λi j=>.bl (decide (i < j))):=opB0 λ_ _ _ _ _ _ _ q=>lt_int q
theorem YAI:OpR X (compareOp .LtE) (rI0 λi j=>.bl (decide (i<=j))):=opB0 λ_ _ _ _ _ _ _ q=>le_int q
theorem op_ge:OpR X (compareOp .GtE) (rI0 λi j=>.bl (decide (j<=i))):=opB0 λ_ _ _ _ _ _ _ q=>ge_int q
theorem YHy:OpR X (compareOp .Is) (λx y H Q=>y=.non/\Q (.bl (decide (x=.non))) H):=by
 intro pins s σ H x y v u Q I rx ry h;obtain⟨rfl,q⟩:=h;cases ry;refine is_none_gen (Yn I q ?_);cases x <;> first
  |(cases rx;rfl)
  |(obtain⟨t,rfl⟩:=rx;rfl)
theorem YGX:OpR X (compareOp .IsNot) (λx y H Q=>y=.non/\Q (.bl (!decide (x=.non))) H):=by
 intro pins s σ H x y v u Q I rx ry h;obtain⟨rfl,q⟩:=h;cases ry;refine isnot_none_gen (Yn I q ?_);cases x <;> first
  |(cases rx;rfl)
  |(obtain⟨t,rfl⟩:=rx;rfl)
theorem Yh (b:Expr) {op:CmpOp} (h:op≠.In:=by decide) (h2:op≠.NotIn:=by decide):behindInMarks op b=false:=by
 have e1:(op == CmpOp.In)=false:=by cases op <;> first |rfl |exact absurd rfl h
 have e2:(op == CmpOp.NotIn)=false:=by cases op <;> first |rfl |exact absurd rfl h2
 cases b <;> simp[behindInMarks,e1,e2]
theorem Zk {op:CmpOp}{r:R2} (ho:OpR X (compareOp op) r) (ha:PE X a ta) (hb:PE X b tb) (hm:behindInMarks op b=false):PE X (.Compare a [op] [b] pos) (tOp r ta tb):=by
 intro pins s σ H Q I h;exact wpAny_Compare1 (binT ha hb I h λv u s2 x y H2 I2 rx ry q=>ho pins s2 σ H2 x y v u Q I2 rx ry q) hm
def tTest (t:TE):TT:=λσ H Q=>t σ H λx H'=>∃k,x=.bl k/\Q k H'
theorem Yl {op:CmpOp}{r:R2} (ho:OpR X (compareOp op) r) (ha:PE X a ta) (hb:PE X b tb) (hm:behindInMarks op b=false):PT X (.Compare a [op] [b] pos) (tTest (tOp r ta tb)):=by
 intro pins s σ H Q I h;refine wpAny_isTrue_Compare1 (thn (ha pins s σ H _ I h) λv s1 ⟨x,H1,I1,r1,q1⟩=>thn (hb pins s1 σ H1 _ I1 q1) λu s2 ⟨y,H2,I2,r2,q2⟩=>
  thn (ho pins s2 σ H2 x y v u _ I2 r1 r2 q2) λc s3 ⟨z,H3,I3,r3,k,e,q3⟩=>?_) hm
 subst e;cases r3;exact wpAny_truthy_bool ⟨H3,I3,q3⟩
def YHz (r r':R2) (ta tb tc:TE):TE:=λσ H Q=>ta σ H λx H1=>tb σ H1 λy H2=>r x y H2 λz H3=>∃k,z=.bl k/\
 (if k=true then tc σ H3 λw' H4=>r' y w' H4 Q else Q (.bl false) H3)
theorem Xg {op rA:CmpOp}{r r':R2} (ho:OpR X (compareOp op) r) (ho':OpR X (compareOp rA) r') (ha:PE X a ta) (hb:PE X b tb) (hc:PE X c tc)
  (hm:lastMarks [op,rA] [b,c]=false:=by with_unfolding_all rfl):PE X (.Compare a [op,rA] [b,c] pos) (YHz r r' ta tb tc):=by
 intro pins s σ H Q I h;refine Compare_chain (thn (ha pins s σ H _ I h) λv s1 ⟨x,H1,I1,r1,q1⟩=>chain_link (thn (hb pins s1 σ H1 _ I1 q1) λu s2 ⟨y,H2,I2,r2,q2⟩=>
  thn (ho pins s2 σ H2 x y v u _ I2 r1 r2 q2) λd s3 ⟨z,H3,I3,r3,k,e,q3⟩=>?_)) hm
 subst e;cases r3;refine wpAny_truthy_bool ?_;cases k with
 |false=>exact ite_ff ⟨.bl false,H3,I3,U,q3⟩
 |true=>exact ite_tt (chain_last (thn (hc pins s3 σ H3 _ I3 q3) λw' s4 ⟨z',H4,I4,r4,q4⟩=>ho' pins s4 σ H4 y z' u w' Q I4 r2 r4 q4))
theorem YH0 {op rA:CmpOp}{r r':R2} (ho:OpR X (compareOp op) r) (ho':OpR X (compareOp rA) r') (ha:PE X a ta) (hb:PE X b tb) (hc:PE X c tc)
  (hm:lastMarks [op,rA] [b,c]=false:=by with_unfolding_all rfl):PT X (.Compare a [op,rA] [b,c] pos) (tTest (YHz r r' ta tb tc)):=by
 intro pins s σ H Q I h;refine isTrue_chain (thn (ha pins s σ H _ I h) λv s1 ⟨x,H1,I1,r1,q1⟩=>test_link (thn (hb pins s1 σ H1 _ I1 q1) λu s2 ⟨y,H2,I2,r2,q2⟩=>
  thn (ho pins s2 σ H2 x y v u _ I2 r1 r2 q2) λd s3 ⟨z,H3,I3,r3,k,e,q3⟩=>?_)) hm
 subst e;cases r3;refine wpAny_truthy_bool ?_;cases k with
 |false=>
  obtain⟨k',e',q'⟩:=q3;cases e';exact ite_ff ⟨H3,I3,q'⟩
 |true=>
  refine ite_tt (test_last (thn (hc pins s3 σ H3 _ I3 q3) λw' s4 ⟨z',H4,I4,r4,q4⟩=>thn (ho' pins s4 σ H4 y z' u w' _ I4 r2 r4 q4) ?_));rintro d' s5 ⟨z2,H5,I5,r5,k2,e2,q5⟩;subst e2;cases r5;exact wpAny_truthy_bool ⟨H5,I5,q5⟩
def TruV (K:W.Frag) (x:V) (H:Hp) (k:Bool):Prop:=
 match x with
 |.non=>k=false
 |.bl b=>k=b
 |.int i=>k=(i != 0)
 |.str y=>y.length<=sizeLine/\k=((y.length:Int) != 0)
 |.byt y=>y.size<=sizeLine/\k=((y.size:Int) != 0)
 |.ref p=>(∃xs,SqL K H p xs/\k=!xs.isEmpty)\/(∃xs,SqT K H p xs/\k=!xs.isEmpty)\/∃kvs,H p=some (.dK kvs)/\k=!kvs.isEmpty
 |_=>False
theorem YFv {κ:Type}{kvs:List (κ×V)}{vs:List (κ×Value)} (r:KV kvs vs):(!vs.isEmpty)=!kvs.isEmpty:=by
 cases r <;> rfl
theorem YCN {xs:List V}{its:List Value} (r:Yi xs its):(!its.toArray.isEmpty)=!xs.isEmpty:=by
 cases r <;> simp
theorem YA7:(sizeLine:Nat) < 2 ^ 63:=by rw[sizeLine_eq];decide
theorem tru_ok:TruR X (λx H Q=>∃k,TruV X.K x H k/\Q k H):=by
 intro pins s σ H x v Q I rx h;obtain⟨k,e,q⟩:=h;have hl:=YA7;have hs:sizeLine=16777216:=sizeLine_eq;cases x with
 |non=>
  cases rx;have e':k=false:=e;subst e';exact truthy_none ⟨H,I,q⟩
 |bl b=>
  cases rx;have e':k=b:=e;subst e';exact wpAny_truthy_bool ⟨H,I,q⟩
 |int i=>
  obtain⟨t,rfl⟩:=rx;have e':k=(i != 0):=e;subst e';exact PySem.P.truthy_int ⟨H,I,q⟩
 |str y=>
  obtain⟨t,rfl⟩:=rx;obtain⟨hy,e'⟩:y.length<=sizeLine/\k=((y.length:Int) != 0):=e;subst e';exact PySem.P.truthy_str (by omega) ⟨H,I.tok _,q⟩
 |byt y=>
  obtain⟨t,rfl⟩:=rx;obtain⟨hy,e'⟩:y.size<=sizeLine/\k=((y.size:Int) != 0):=e;subst e';exact PySem.W.truthy_bytes (by omega) ⟨H,I.tok _,q⟩
 |ref p=>
  cases rx;have e':(∃xs,SqL X.K H p xs/\k=!xs.isEmpty)\/(∃xs,SqT X.K H p xs/\k=!xs.isEmpty)\/∃kvs,H p=some (.dK kvs)/\k=!kvs.isEmpty:=e;rcases e' with ⟨xs,hx,e'⟩ |⟨xs,hx,e'⟩ |⟨kvs,hx,e'⟩
  ·subst e';obtain⟨its,r,pl,hz⟩:=I.list hx;have hlen:=r.length;exact wpAny_truthy_list pl.isList (by simp only[YJN];omega) ⟨H,I.tok _,by rw[YCN r];exact q⟩
  ·subst e';obtain⟨its,r,pl,hz⟩:=I.tuple hx;have hlen:=r.length;exact truthy_tuple pl (by simp only[YJN];omega) ⟨H,I.tok _,by rw[YCN r];exact q⟩
  ·subst e';obtain⟨hz,hS,vs,r,m⟩:kvs.length<=sizeLine/\(p == sysModules)=false/\∃vs,KV kvs vs/\s.heap.DictOf (Y0 X.prog X.w) p vs:=I.hok p _ hx;have hlen:kvs.length=vs.length:=Paired.length r;exact wpAny_truthy_dict hS m (by omega) ⟨H,I.tok _,by rw[YFv r];exact q⟩
 |_=>exact(show False from e).elim
theorem YH1 (ha:PE X a ta) (he:∀whole,isTrue a X.env whole=(do let v <-whole;standAt a.pos;holding [v] (truthy v))):
  PT X a (λσ H Q=>ta σ H λx H'=>∃k,TruV X.K x H' k/\Q k H'):=by
 intro pins s σ H Q I h;exact isTrue_plain (thn (ha pins s σ H _ I h) λv s1 ⟨x,H1,I1,r1,q1⟩=>tru_ok pins s1 σ H1 x v Q I1 r1 q1) (he _)
theorem Zm:OpR X (binaryOp .Add) (λx y H Q=>∃i j,x=.str i/\y=.str j/\i.length + j.length<=sizeLine/\Q (.str (i ++ j)) H):=by
 intro pins s σ H x y v u Q I rx ry h;obtain⟨i,j,rfl,rfl,hz,q⟩:=h;obtain⟨t,rfl⟩:=rx;obtain⟨t',rfl⟩:=ry;exact add_str (λt' tk=>⟨.str (i ++ j),H,I.tok _,⟨_,U⟩,q⟩) hz
theorem Jo {x:V}{us:List Value} (r:Yi [x] us):∃u,us=[u]/\Ym x u:=by
 cases r with
 |cons r1 r2=>cases r2;exact⟨_,U,r1⟩
theorem vals2 {x y:V}{us:List Value} (r:Yi [x,y] us):∃u w',us=[u,w']/\Ym x u/\Ym y w':=by
 cases r with
 |cons r1 r2=>
  cases r2 with
  |cons r3 r4=>cases r4;exact⟨_,_,U,r1,r3⟩
theorem YHG (hc:X.calm=true):Zr X (.builtin "min") (λxs H Q=>∃i j,xs=[.int i,.int j]/\Q (.int (if j < i then j else i)) H):=by
 intro pins s σ H xs us Q I r h;obtain⟨i,j,rfl,q⟩:=h;obtain⟨u,w',rfl,⟨t,rfl⟩,⟨t',rfl⟩⟩:=vals2 r;refine min_two_ints (I.ok.hd hc) λh' tk k=>⟨_,H,I.kept k,?_,q⟩
 by_cases hj:j < i
 ·rw[if_pos hj,if_pos hj];exact⟨_,U⟩
 ·rw[if_neg hj,if_neg hj];exact⟨_,U⟩
theorem YA8:Zr X (.type "int") (λxs H Q=>(∃i,xs=[.int i]/\Q (.int i) H)\/∃k,xs=[.bl k]/\Q (.int (if k then 1 else 0)) H):=by
 intro pins s σ H xs us Q I r h;rcases h with ⟨i,rfl,q⟩ |⟨k,rfl,q⟩
 ·obtain⟨u,rfl,t,rfl⟩:=Jo r;exact call_int_int ⟨.int i,H,I,⟨_,U⟩,q⟩
 ·obtain⟨u,rfl,r1⟩:=Jo r;cases r1;exact call_int_bool ⟨.int (if k then 1 else 0),H,I.tok _,⟨_,U⟩,q⟩
theorem ZN:Zr X (.type "str") (λxs H Q=>∃i,xs=[.int i]/\i.natAbs.log2 < 1920/\Q (.str (toString i)) H):=by
 intro pins s σ H xs us Q I r h;obtain⟨i,rfl,hz,q⟩:=h;obtain⟨u,rfl,t,rfl⟩:=Jo r;exact PySem.P.str_of_int hz ⟨.str _,H,I.tok _,⟨_,U⟩,q⟩
theorem YH2:Zr X (.builtin "ord") (λxs H Q=>∃x,xs=[.str x]/\x.length=1/\Q (.int (x.cps.getD 0 0:Nat)) H):=by
 intro pins s σ H xs us Q I r h;obtain⟨x,rfl,hz,q⟩:=h;obtain⟨u,rfl,t,rfl⟩:=Jo r;exact ord_of_one hz ⟨.int _,H,I.tok _,⟨_,U⟩,q⟩
end
end L2
namespace L2
open PySem PySem.Spec PyProof.Rows
structure ObjM (h:Heap) (x dx C:Addr) (mA:Str->Option Value):Prop where
 obj:h.get? x=some (PySem.W.instObj C dx)
 ns:h.Ns1 dx mA
 ne:dx≠x
theorem YHH {h:Heap}{dx:Addr}{mA:Str->Option Value} (n:h.Ns1 dx mA):∃od,h.get? dx=some od/\∀name,PySem.W.lookIn name od=some (mA name):=by
 obtain⟨o,es,ep,ho,hd,hk,_,hm⟩:=n;refine⟨o,ho,λname=>?_⟩;have e:=hm name;unfold nsFind findBy at e;rw[<-Array.find?_toList]at e;unfold PySem.W.lookIn;rw[hd];dsimp only;split
 ·rename_i y q
  rw[q]at e;exact YJ2 some e
 ·rename_i q
  rw[q]at e;have a:es.toList.any (·.refKey)=false:=by
   rw[List.any_eq_false];intro y hy;obtain⟨z,t,hkey⟩:=hk y (Array.mem_toList_iff.mp hy);simp[DictEntry.refKey,hkey]
  have a':¬es.toList.any (·.refKey)=true:=by rw[a];exact YJT
  rw[if_neg a'];exact YJ2 some e
theorem ObjM.look {h:Heap}{x dx C:Addr}{mA:Str->Option Value} (I:ObjM h x dx C mA):∃od,PySem.W.InstAt h x (PySem.W.instObj C dx) C (some od)/\∀name,PySem.W.lookIn name od=some (mA name):=
 let ⟨od,ho,hl⟩:=YHH I.ns
 ⟨od,⟨I.obj,U,U,ho⟩,hl⟩
section
variable {prog:Program}{w:World}{A:Around}{E:Value->Shared->Prop}{s:Shared}{K:W.Frag}{x dx C f:Addr}{mA:Str->Option Value}{name:Str}{v:Value}
theorem get_map {expr:Bool}{Q:Value->Shared->Prop} (X:K.In s.heap) (I:ObjM s.heap x dx C mA) (hg:PySem.W.plainGet K C name=true) (hh:PySem.W.hasDictIn K C=true)
  (ha:PySem.W.findIn K (.ref C) name=some none) (hv:mA name=some v) (hv':PySem.W.handedIn v=true) (h:Q v { s with toks:=s.toks + 1 }):
  wpAny (model prog w) A (getAttr (.ref x) name expr) Q E s:=by
 obtain⟨od,J,hl⟩:=I.look;exact PySem.W.get_value X J (PySem.W.plainGet_of hg).1 (PySem.W.findObj_own hh ha rfl (by rw[hl,hv])) hv' h
theorem YH3 {pl:Sem Bool}{Q:Value×List Value->Shared->Prop} (X:K.In s.heap) (I:ObjM s.heap x dx C mA) (hg:PySem.W.plainGet K C name=true)
  (hf:PySem.W.findIn K (.ref C) name=some (some (.ref f))) (ht:PySem.W.isFn K (.ref f)=true) (hv:mA name=none) (h:Q (.ref f,[.ref x]) s):
  wpAny (model prog w) A (getMethod (.ref x) name pl) Q E s:=by
 obtain⟨od,J,hl⟩:=I.look;exact PySem.W.method_fn X J (PySem.W.plainGet_of hg).1 (PySem.W.plainGet_of hg).2 hf (beq_iff_eq.mp ht) (by show(PySem.W.lookIn name od).map (·.isSome)=some false;rw[hl,hv];rfl) h
theorem set_map {ns:List Str}{Q:Unit->Shared->Prop} (X:K.In s.heap) (I:ObjM s.heap x dx C mA)
  (hs:PySem.W.findIn K (.ref C) "__setattr__"=some (some (.builtin "object.__setattr__"))) (hp:PySem.W.plainOver K C=true) (ht:PySem.W.takerIn K C name=some none) (hh:PySem.W.hasDictIn K C=true)
  (hw:PySem.Within mA ns) (hsz:ns.length<=sizeLine)
  (h:∀h',ObjM h' x dx C (λy=>if y=name then some v else mA y)->Heap.SameBut dx s.heap h'->Q () { s with heap:=h',toks:=s.toks + 2 }):
  wpAny (model prog w) A (setAttr (.ref x) name v) Q E s:=by
 obtain⟨od,J,hl⟩:=I.look;refine PySem.W.set_plain X J hs (PySem.W.osa_open (s:={ s with toks:=s.toks + 1 }) (r:=none) X J hp ht λb=>?_);obtain⟨cd,hc,hd'⟩:=PySem.W.any_some hh;have hx:s.heap.get? x=some ⟨.ref C,some dx,.plain,#[]⟩:=I.obj;refine YJU (YJm (YJU (YJU (wpAny_loadPart hx (YJU (PySem.W.Looks.here (s:={ s with toks:=s.toks + 1 }) (PySem.W.looks_clsIn X hc) ?_))))));rw[hd'];refine YJm (a:=some dx) (YJU (YJm (YJU ?_)));refine wpAny_nsSet1 (s:={ s with toks:=s.toks + 1 }) I.ns λh' hn2 hs2=>?_
 obtain⟨oD,esD,epD,hoD,hdD,hcD⟩:=hn2.count (PySem.Within.cons name v hw);refine YJU (wpAny_lookBehind hoD (by rw[hdD];exact pastItsLine_dict (YJR hcD (by rw[YJY];omega))) ?_);exact YJm (h _ ⟨(hs2.2 _ (Ne.symm I.ne)).trans I.obj,hn2,I.ne⟩ hs2)
theorem YH4 {R:Result->Shared->Prop}{vs:List Value}{kw:List (Str×Value)} (X:K.In s.heap) (hm:PySem.W.makesIn K C=true)
  (hi:PySem.W.findIn K (.ref C) "__init__"=some (some (.ref f))) (hf:PySem.W.typeIn K (.ref f)=some (.type "function"))
  (h:codeAny (model prog w) (A.under (.builtin "type.__call__" ⟨.ref C :: vs,kw⟩)) (.call (.ref f) ⟨.ref (s.heap.objs.size + 1) :: vs,kw⟩) (PySem.W.InitBack (s.heap.objs.size + 1) R)
   { s with heap:=(s.heap.push PySem.W.emptyDict).push (PySem.W.instObj C s.heap.objs.size) }):
  codeAny (model prog w) A (.call (.ref C) ⟨vs,kw⟩) R s:=by
 obtain⟨hh,g,d,t,os⟩:=s;exact PySem.W.make_core (PySem.W.makes_of X hm) (PySem.W.looks_findIn X hi) (λself=>PySem.W.bind_fn X self hf) (.inl rfl) h
end
def YAG (f:Str) (v:V):List (Str×V)->List (Str×V)
 |[]=>[(f,v)]
 |(g,x) :: r=>if g=f then (g,v) :: r else (g,x) :: YAG f v r
theorem YBe (f g:Str) (v:V):∀fs:List (Str×V),(YAG f v fs).lookup g=if g=f then some v else fs.lookup g
 |[]=>by
  show List.lookup g [(f,v)]=_
  by_cases h:g=f
  ·have hb:(g == f)=true:=beq_iff_eq.mpr h;simp only[List.lookup,hb,if_pos h]
  ·have hb:(g == f)=false:=beq_eq_false_iff_ne.mpr h;simp only[List.lookup,hb,if_neg h]
 |(k,x) :: r=>by
  have ih:=YBe f g v r;rw[show YAG f v ((k,x) :: r)=(if k=f then (k,v) :: r else (k,x) :: YAG f v r) from rfl]
  by_cases hk:k=f
  ·rw[if_pos hk]
   by_cases h:g=k
   ·have hb:(g == k)=true:=beq_iff_eq.mpr h;simp only[List.lookup,hb,if_pos (h.trans hk)]
   ·have hb:(g == k)=false:=beq_eq_false_iff_ne.mpr h;simp only[List.lookup,hb,if_neg (λe:g=f=>h (e.trans hk.symm))]
  ·rw[if_neg hk]
   by_cases h:g=k
   ·have hb:(g == k)=true:=beq_iff_eq.mpr h;simp only[List.lookup,hb,if_neg (λe:g=f=>hk (h.symm.trans e))]
   ·have hb:(g == k)=false:=beq_eq_false_iff_ne.mpr h;simp only[List.lookup,hb];exact ih
theorem YA9 (f:Str) (v:V):∀fs:List (Str×V),f∈(YAG f v fs).map (·.1)/\∀g,g∈fs.map (·.1)->g∈(YAG f v fs).map (·.1)
 |[]=>⟨by simp[YAG],λg h=>by simp at h⟩
 |(k,x) :: r=>by
  obtain⟨i1,i2⟩:=YA9 f v r;rw[show YAG f v ((k,x) :: r)=(if k=f then (k,v) :: r else (k,x) :: YAG f v r) from rfl]
  by_cases hk:k=f
  ·rw[if_pos hk];subst hk;exact⟨by simp,λg h=>by simpa using h⟩
  ·rw[if_neg hk];refine⟨?_,λg h=>?_⟩
   ·rw[YJO];exact YJD _ i1
   ·rw[YJO]at h ⊢;rcases YJK.mp h with e |e
    ·exact YJK.mpr (.inl e)
    ·exact YJD _ (i2 g e)
theorem YBf (f:Str) (v:V):∀fs:List (Str×V),(YAG f v fs).length<=fs.length + 1
 |[]=>by simp[YAG]
 |(k,x) :: r=>by
  have ih:=YBf f v r;rw[show YAG f v ((k,x) :: r)=(if k=f then (k,v) :: r else (k,x) :: YAG f v r) from rfl]
  by_cases hk:k=f
  ·rw[if_pos hk,YJY,YJY];omega
  ·rw[if_neg hk,YJY,YJY];omega
theorem XG.some_of {v:V}{o:Option Value} (r:XG (some v) o):∃u,o=some u/\Ym v u:=by
 cases o with
 |none=>exact(show False from r).elim
 |some u=>exact⟨u,U,r⟩
theorem XG.none_of {o:Option Value} (r:XG none o):o=none:=by
 cases o with
 |none=>rfl
 |some u=>exact(show False from r).elim
theorem YHI {v:V}{u:Value} (r:Ym v u):PySem.W.handedIn u=true:=by
 cases v with
 |non=>cases (show u=Value.none from r);rfl
 |bl b=>cases (show u=Value.bool b from r);rfl
 |int i=>obtain⟨t,e⟩:=(show ∃t,u=Value.int i t from r);cases e;rfl
 |str x=>obtain⟨t,e⟩:=(show ∃t,u=Value.str x t from r);cases e;rfl
 |byt b=>obtain⟨t,e⟩:=(show ∃t,u=Value.bytes b t from r);cases e;rfl
 |flt b=>obtain⟨t,e⟩:=(show ∃t,u=Value.float b t from r);cases e;rfl
 |ref a=>cases (show u=Value.ref a from r);rfl
 |ty n=>cases (show u=Value.type n from r);rfl
section
variable {P:Program}{w:World}{H H':Hp}{h h':Heap}{a C dx:Addr}{fs rY:List (Str×V)}
theorem YB6 (hok:HOk P w H h) (e:H a=some (.ins C dx fs)):∃mA,ObjM h a dx C mA/\(∀f,XG (fs.lookup f) (mA f))/\PySem.Within mA (fs.map (·.1))/\fs.length<=1000/\H dx=some (.own a):=by
 obtain⟨d,z,ne,ob,mA,n,r,q⟩:=(show Yy P w H h a (.ins C dx fs) from hok a _ e);exact⟨mA,⟨ob,n,ne⟩,r,q,z,d⟩
end
structure Cls (K:W.Frag) (C:Addr):Prop where
 pg:PySem.W.plainGet K C Str.empty=true
 hd:PySem.W.hasDictIn K C=true
 po:PySem.W.plainOver K C=true
 sa:PySem.W.findIn K (.ref C) "__setattr__"=some (some (.builtin "object.__setattr__"))
theorem Cls.get {K:W.Frag}{C:Addr} (c:Cls K C) (f:Str):PySem.W.plainGet K C f=true:=c.pg
def YAS (K:W.Frag) (C:Addr) (f:Str):Prop:=PySem.W.findIn K (.ref C) f=some none
theorem YAS.taker {K:W.Frag}{C:Addr}{f:Str} (n:YAS K C f):PySem.W.takerIn K C f=some none:=by
 unfold PySem.W.takerIn;rw[show PySem.W.findIn K (.ref C) f=some none from n];rfl
structure Meth (K:W.Frag) (C:Addr) (m:Str) (f:Addr):Prop where
 at_:PySem.W.findIn K (.ref C) m=some (some (.ref f))
 fn:PySem.W.isFn K (.ref f)=true
 kp:PySem.W.keepIn K (.ref f)=true
section
variable {X:Cx}{pins:List (Addr×Obj)}{σ:St}{H:Hp}{s:Shared}{a C dx:Addr}{fs:List (Str×V)}{f:Str}{v:V}{A:Around}{E:Value->Shared->Prop}
theorem YFw {b:Bool}{Q:Value->Shared->Prop} (I:Inv X pins σ H s) (e:H a=some (.ins C dx fs)) (c:Cls X.K C) (n:YAS X.K C f) (l:fs.lookup f=some v)
  (h:∀u s',Inv X pins σ H s'->Ym v u->Q u s'):wpAny (model X.prog X.w) A (getAttr (.ref a) f b) Q E s:=by
 obtain⟨mA,O,r,_,_,_⟩:=YB6 I.hok e;obtain⟨u,hu,ru⟩:=XG.some_of (v:=v) (o:=mA f) (by rw[<-l];exact r f);exact get_map I.kIn O (c.get f) c.hd n hu (YHI ru) (h u _ (I.tok _) ru)
theorem YFx {m:Str}{g:Addr}{pl:Sem Bool}{Q:Value×List Value->Shared->Prop} (I:Inv X pins σ H s) (e:H a=some (.ins C dx fs)) (c:Cls X.K C) (k:Meth X.K C m g) (l:fs.lookup m=none)
  (h:Q (.ref g,[.ref a]) s):wpAny (model X.prog X.w) A (getMethod (.ref a) m pl) Q E s:=by
 obtain⟨mA,O,r,_,_,_⟩:=YB6 I.hok e;have hn:mA m=none:=XG.none_of (by rw[<-l];exact r m);exact YH3 I.kIn O (c.get m) k.at_ k.fn hn h
theorem YFy {y:V}{u:Value}{Q:Unit->Shared->Prop} (I:Inv X pins σ H s) (e:H a=some (.ins C dx fs)) (c:Cls X.K C) (n:YAS X.K C f) (hl:fs.length < 1000) (ry:Ym y u)
  (h:∀s',Inv X pins σ (upd H a (.ins C dx (YAG f y fs))) s'->Q () s'):wpAny (model X.prog X.w) A (setAttr (.ref a) f u) Q E s:=by
 obtain⟨mA,O,r,wi,_,ho⟩:=YB6 I.hok e;have hz:(fs.map (·.1)).length<=sizeLine:=by rw[YI6,sizeLine_eq];omega
 refine set_map I.kIn O c.sa c.po n.taker c.hd wi hz λh' O' sb=>h _ ?_
 have hd:∃o,h'.get? dx=some o:=let ⟨o,_,_,e',_⟩:=O'.ns;⟨o,e'⟩
 refine I.write (x:=a) (e:=dx) (by rw[e];exact True.intro) (.inr ho) (λb q hb z=>(sb.2 b hb).trans z) hd ?_;refine⟨by rw[YN O.ne];exact ho,?_,O.ne,O'.obj,_,O'.ns,λg=>?_,λg hg=>?_⟩
 ·have:=YBf f y fs;omega
 ·show XG ((YAG f y fs).lookup g) (if g=f then some u else mA g);rw[YBe]
  by_cases q:g=f
  ·rw[if_pos q,if_pos q];exact ry
  ·rw[if_neg q,if_neg q];exact r g
 ·by_cases q:g=f
  ·rw[q];exact(YA9 f y fs).1
  ·refine(YA9 f y fs).2 g (wi g λz=>hg ?_);show(if g=f then some u else mA g)=none;rw[if_neg q];exact z
theorem Inv.made (I:Inv X pins σ H s):Inv X pins σ (upd (upd H s.heap.objs.size (.own (s.heap.objs.size + 1))) (s.heap.objs.size + 1) (.ins C s.heap.objs.size []))
  { s with heap:=(s.heap.push PySem.W.emptyDict).push (PySem.W.instObj C s.heap.objs.size) }:=by
 have e1:(s.heap.push PySem.W.emptyDict).get? s.heap.objs.size=some PySem.W.emptyDict:=YJS s.heap rfl;have e2:((s.heap.push PySem.W.emptyDict).push (PySem.W.instObj C s.heap.objs.size)).get? (s.heap.objs.size + 1)=some (PySem.W.instObj C s.heap.objs.size):=by
  have:=YJS (s.heap.push PySem.W.emptyDict) (o:=PySem.W.instObj C s.heap.objs.size) rfl
  rwa [YKZ]at this
 have e3:(s.heap.push PySem.W.emptyDict).Ns s.heap.objs.size (λ_=>none):=⟨PySem.W.emptyDict,#[],_,e1,U,(λe he=>absurd he (by simp)),λ_=>rfl⟩;have I1:=I.laid (a:=s.heap.objs.size) (o:=.own (s.heap.objs.size + 1)) (h':=s.heap.push PySem.W.emptyDict) (t':=s.toks) (λb u q=>YI9 _ q) (YJB _) ⟨_,e1⟩;refine I1.laid (a:=s.heap.objs.size + 1) (o:=.ins C s.heap.objs.size []) (t':=s.toks) (λb u q=>YI9 _ q) (Nat.le_of_eq (YKZ _ _)) ?_;have ne:s.heap.objs.size≠s.heap.objs.size + 1:=YJc (Nat.lt_succ_self _);refine⟨by rw[YN ne,YD],YJh _,ne,e2,λ_=>none,(Heap.Ns1.of_empty e3).at λo q=>YI9 _ q,λ_=>True.intro,λy hy=>absurd rfl hy⟩
theorem attr_of {prog:Program}{w:World}{env:Env}{e:Expr}{f:Str}{pos:Pos}{s:Shared}{Q:Value->Shared->Prop} (hb:attributeBase e f env (eval e env)=eval e env)
  (h:wpAny (model prog w) A (eval e env) (λo s₁=>wpAny (model prog w) A (getAttr o f true) Q E s₁) E s):wpAny (model prog w) A (eval (.Attribute e f pos) env) Q E s:=
 Attribute_any_ h (by rw[arm_eval_Attribute,hb])
end
inductive tFld_ (K:W.Frag) (f:Str) (Q:VK) (x:V) (H1:Hp):Prop where
 |mk (a:_) (C:_) (dx:_) (fs:_) (v:_) (aQ:x=.ref a) (aR:H1 a=some (.ins C dx fs)) (bu:Cls K C) (cM:YAS K C f) (dR:fs.lookup f=some v) (lO:Q v H1):tFld_ K f Q x H1
def tFld (K:W.Frag) (ta:TE) (f:Str):TE:=λσ H Q=>ta σ H λx H1=>tFld_ K f Q x H1
inductive sFld_ (K:W.Frag) (f:Str) (D:YAP) (σ:St) (y:V) (x:V) (H2:Hp):Prop where
 |mk (a:_) (C:_) (dx:_) (fs:_) (aQ:x=.ref a) (aR:H2 a=some (.ins C dx fs)) (bu:Cls K C) (cM:YAS K C f) (dR:fs.length < 1000) (lO:D.nx σ (upd H2 a (.ins C dx (YAG f y fs)))):sFld_ K f D σ y x H2
def sFld (K:W.Frag) (ta tv:TE) (f:Str):TS:=λD σ H=>tv σ H λy H1=>ta σ H1 λx H2=>sFld_ K f D σ y x H2
section
variable {X:Cx}{o e value:Expr}{f:Str}{pos dI mL:Pos}{ta tv:TE}
theorem pe_fld (he:PE X e ta) (hb:attributeBase e f X.env (eval e X.env)=eval e X.env):PE X (.Attribute e f pos) (tFld X.K ta f):=by
 intro pins s σ H Q I h;refine attr_of hb (thn (he pins s σ H _ I h) ?_);rintro u s1 ⟨x,H1,I1,rx,a,C,dx,fs,v,ex,ea,c,n,l,q⟩;subst ex;obtain rfl:u=Value.ref a:=rx;exact YFw I1 ea c n l λu' s2 I2 ru=>⟨v,H1,I2,ru,q⟩
theorem ps_fld (ha:PE X o ta) (hv:PE X value tv) (hs:swapsWith value (some (.Attribute o f dI)) pos.line X.env=pure false):PS X (.Assign [.Attribute o f dI] value pos) (sFld X.K ta tv f):=by
 intro pins s σ H D I h;refine plainObj_wpAny_Assign_Attribute (thn (hv pins s σ H _ I h) λu s1 ⟨y,H1,I1,ry,q⟩=>thn (ha pins s1 σ H1 _ I1 q) λov s2 ⟨x,H2,I2,rx,a,C,dx,fs,ex,ea,c,n,l,q2⟩=>?_) hs;subst ex;obtain rfl:ov=Value.ref a:=rx;exact YFy I2 ea c n l ry λs3 I3=>⟨σ,_,I3,q2⟩
end
section
variable {X:Cx}{pins:List (Addr×Obj)}{σ:St}{H:Hp}{s:Shared}{A:Around}{E:Value->Shared->Prop}{Q:Value->Shared->Prop}{c:Value}{b:Bool}
inductive YAT (K:W.Frag) (H:Hp):V->Value->Prop where
 |non:YAT K H .non (.type "NoneType")
 |bl (x:Bool):YAT K H (.bl x) (.type "bool")
 |int (i:Int):YAT K H (.int i) (.type "int")
 |str (x:Str):YAT K H (.str x) (.type "str")
 |flt (x:UInt64):YAT K H (.flt x) (.type "float")
 |lst {a:Addr}{xs:List V} (e:H a=some (.lst xs)):YAT K H (.ref a) (.type "list")
 |frz {a:Addr}{o:Obj}{xs:List V} (e:H a=some (.frz o (.lst xs))):YAT K H (.ref a) (.type "list")
 |tup {a:Addr}{xs:List V} (e:H a=some (.tup xs)):YAT K H (.ref a) (.type "tuple")
 |dK {a:Addr}{kvs:List (Key×V)} (e:H a=some (.dK kvs)):YAT K H (.ref a) (.type "dict")
 |dT {a:Addr}{kvs:List (List Key×V)} (e:H a=some (.dT kvs)):YAT K H (.ref a) (.type "dict")
 |ins {a C dx:Addr}{fs:List (Str×V)} (e:H a=some (.ins C dx fs)) (cl:Cls K C) (ha:PySem.W.findIn K (.ref C) "__class__"=some (some (.builtin "object.__class__")))
   (hn:PySem.W.specialIn K (.builtin "object.__class__") "__get__"=some (some (.builtin "getset_descriptor.__get__"))) (vN:PySem.W.takesIn K (.builtin "object.__class__")=some true)
   (hm:PySem.W.mroIn K C (.type "object")=some true):YAT K H (.ref a) (.ref C)
theorem YHJ {x:V}{u t:Value} (I:Inv X pins σ H s) (rx:Ym x u) (ty:YAT X.K H x t) (e:PySem.W.kitOne X.K t c=some b) (h:∀tk,Q (.bool b) { s with toks:=tk }):
  wpAny (model X.prog X.w) A (call (.builtin "isinstance") [u,c]) Q E s:=by
 cases ty with
 |non=>cases (show u=Value.none from rx);exact PySem.W.kia_one PySem.W.kitx_none I.kIn True.intro e nofun h
 |bl y=>cases (show u=Value.bool y from rx);exact PySem.W.kia_one PySem.W.kitx_bool I.kIn True.intro e nofun h
 |int i=>obtain⟨t,q⟩:=(show ∃t,u=Value.int i t from rx);cases q;exact PySem.W.kia_one PySem.W.kitx_int I.kIn True.intro e nofun h
 |str y=>obtain⟨t,q⟩:=(show ∃t,u=Value.str y t from rx);cases q;exact PySem.W.kia_one PySem.W.kitx_str I.kIn True.intro e nofun h
 |flt y=>obtain⟨t,q⟩:=(show ∃t,u=Value.float y t from rx);cases q;exact PySem.W.kia_one PySem.W.kitx_float I.kIn True.intro e nofun h
 |@lst a xs ea=>
  cases (show u=Value.ref a from rx);obtain⟨_,_,n,_,h1⟩:=(show Yy X.prog X.w H s.heap a (.lst xs) from I.hok a _ ea);exact PySem.W.kia_one PySem.W.kitx_list I.kIn ⟨_,h1,U⟩ e nofun h
 |@frz a ob xs ea=>
  cases (show u=Value.ref a from rx);obtain⟨_,_,_,n,_,h1⟩:=(show Yy X.prog X.w H s.heap a (.frz ob (.lst xs)) from I.hok a _ ea);exact PySem.W.kia_one PySem.W.kitx_list I.kIn ⟨_,h1,U⟩ e nofun h
 |@tup a xs ea=>
  cases (show u=Value.ref a from rx);obtain⟨_,_,_,p⟩:=(show Yy X.prog X.w H s.heap a (.tup xs) from I.hok a _ ea);obtain⟨o,h1,h2,_⟩:=p;exact PySem.W.kia_one PySem.W.kitx_tuple I.kIn ⟨o,h1,h2⟩ e nofun h
 |@dK a kvs ea=>
  cases (show u=Value.ref a from rx);obtain⟨_,_,vs,_,p⟩:=(show Yy X.prog X.w H s.heap a (.dK kvs) from I.hok a _ ea);obtain⟨o,es,ep,h1,h2,_⟩:=p;exact PySem.W.kia_one PySem.W.kitx_dict I.kIn ⟨o,h1,h2.1⟩ e nofun h
 |@dT a kvs ea=>
  cases (show u=Value.ref a from rx);obtain⟨_,_,xs,_,o,es,ep,h1,h2,_⟩:=(show Yy X.prog X.w H s.heap a (.dT kvs) from I.hok a _ ea);exact PySem.W.kia_one PySem.W.kitx_dict I.kIn ⟨o,h1,h2.1⟩ e nofun h
 |@ins a C dx fs ea cl ha hn vN hm=>
  cases (show u=Value.ref a from rx);obtain⟨mA,O,_⟩:=YB6 I.hok ea;obtain⟨od,J,_⟩:=O.look;exact PySem.W.kia_one (PySem.W.kitx_own (cl.get _) cl.hd ha hn vN hm) I.kIn J e nofun h
end
end L2
namespace L2
open PySem PySem.Spec PyProof.Rows
structure JJ (k:Nat) (A:Around):Prop where
 hd:A.handled=none
 dp:A.depth + 3 * k + 5 < recursionLimit
 un:A.units + 16 * k + 200 < cLine
theorem JJ.mono {j k:Nat}{A:Around} (r:JJ k A) (h:j<=k):JJ j A:=⟨r.hd,by have:=r.dp;omega,by have:=r.un;omega⟩
theorem JJ.deeper {k:Nat}{A:Around} (r:JJ (k + 1) A) (env:Env):JJ k (A.deeper env):=
 ⟨r.hd,by have:=r.dp;show A.depth + 1 + 3 * k + 5 < _;omega,by have:=r.un;show A.units + 3 + 16 * k + 200 < _;omega⟩
theorem YFz {A:Around}{C:Addr}{us:List Value}{kw:List (Str×Value)}:(A.under (.builtin "type.__call__" ⟨.ref C :: us,kw⟩)).depth=A.depth + 1:=by
 first |rfl |simp[Around.under,Code.weight,Code.isCreation,Code.isGuard,Code.isCaller,Code.frames,Code.isFrame,guardIds]
theorem YF0 {A:Around}{C:Addr}{us:List Value}{kw:List (Str×Value)}:(A.under (.builtin "type.__call__" ⟨.ref C :: us,kw⟩)).units=A.units + 1:=by
 first |rfl |simp[Around.under,Code.cUnits,Code.frames,Code.isFrame]
theorem JJ.make {k:Nat}{A:Around} (r:JJ (k + 1) A) (C:Addr) (us:List Value) (kw:List (Str×Value)):JJ k (A.under (.builtin "type.__call__" ⟨.ref C :: us,kw⟩)):=
 ⟨r.hd,by have:=r.dp;rw[YFz];omega,by have:=r.un;rw[YF0];omega⟩
theorem JJ.depth {k:Nat}{A:Around} (r:JJ k A):A.depth < recursionLimit:=by have:=r.dp;omega
theorem JJ.units {k:Nat}{A:Around} (r:JJ k A):A.units + 64 < cLine:=by have:=r.un;omega
def tNil:TA:=λ_ H Q=>Q [] H
def tCons (ta:TE) (tr:TA):TA:=λσ H Q=>ta σ H λx H1=>tr σ H1 λxs H2=>Q (x :: xs) H2
section
variable {X:Cx}{e:Expr}{es:List Expr}{te:TE}{t:TA}{pos:Pos}
theorem YB:PA X [] tNil:=λ_ _ _ _ H Q I h=>Calls.spliced_nil ⟨[],H,I,.nil,h⟩
theorem YA (ha:PE X e te) (hr:PA X es t) (hs:starEach (e :: es) X.env=(false,eval e X.env) :: starEach es X.env:=by rfl):PA X (e :: es) (tCons te t):=by
 intro pos pins s σ H Q I h;rw[hs];show wpAny _ _ (spliced ((false,eval e X.env) :: backTo pos (starEach es X.env))) _ _ s;refine Calls.spliced_cons (thn (ha pins s σ H _ I h) λu s1 ⟨x,H1,I1,r1,q1⟩=>?_);exact thn (hr pos pins s1 σ H1 _ I1 q1) λus s2 ⟨xs,H2,I2,r2,q2⟩=>⟨x :: xs,H2,I2,.cons r1 r2,q2⟩
inductive tTup_ (Q:VK) (xs:List V) (H1:Hp):Prop where
 |mk (aQ:xs.length<=sizeLine) (aR:∀p,H1 p=none->Q (.ref p) (upd H1 p (.tup xs))):tTup_ Q xs H1
def tTup (t:TA):TE:=λσ H Q=>t σ H λxs H1=>tTup_ Q xs H1
inductive tLst_ (Q:VK) (xs:List V) (H1:Hp):Prop where
 |mk (aQ:xs.length<=sizeLine) (aR:∀p,H1 p=none->Q (.ref p) (upd H1 p (.lst xs))):tLst_ Q xs H1
def tLst (t:TA):TE:=λσ H Q=>t σ H λxs H1=>tLst_ Q xs H1
theorem YCO {x1} (h:PA X es t):PE X (.Tuple es x1 pos) (tTup t):=by
 intro pins s σ H Q I hq;refine wpAny_Tuple_spliced (thn (h pos pins s σ H _ I hq) λus s1 ⟨xs,H1,I1,r,z,q⟩=>⟨by rw[<-r.length];exact z,?_⟩);have hf:H1 s1.heap.objs.size=none:=I1.hok.fresh (YJB _);refine⟨.ref s1.heap.objs.size,upd H1 s1.heap.objs.size (.tup xs),I1.laid (t':=s1.toks) (λb u e=>YI9 _ e) (YJB _) ?_,U,q _ hf⟩;exact⟨z,us,r,⟨_,YJS _ rfl,U,_,U⟩⟩
theorem JW (h:PA X es t):PE X (.List es pos) (tLst t):=by
 intro pins s σ H Q I hq;refine wpAny_List_spliced (thn (h pos pins s σ H _ I hq) λus s1 ⟨xs,H1,I1,r,z,q⟩=>⟨by rw[<-r.length];exact z,?_⟩);have hf:H1 s1.heap.objs.size=none:=I1.hok.fresh (YJB _);refine⟨.ref s1.heap.objs.size,upd H1 s1.heap.objs.size (.lst xs),I1.laid (t':=s1.toks) (λb u e=>YI9 _ e) (YJB _) ?_,U,q _ hf⟩;exact⟨z,us,0,r,YJS _ rfl⟩
end
abbrev Sp:=List V->Hp->VK->XK->Prop
abbrev CXT:=List Env->Hp->Shared->XK->Value->Shared->Prop
structure Env0 (P:Program) (w:World) (K:W.Frag) (mg:Str->Option Value) (base:Heap) (A:Around) (outer:List Env) (s:Shared) (H:Hp):Prop where
 frames:A.frames=some outer
 mod:Mod K mg base
 bs:∀b o,base.get? b=some o->s.heap.get? b=some o/\H b=none
 bsz:base.objs.size<=s.heap.objs.size
 funs:s.heap.FunFrames base outer
 frf:∀b∈frs outer,H b=none
 hok:HOk P w H s.heap
 bare:AllBare s.gens
def CE (outer:List Env) (P:Program) (w:World) (H:Hp) (s:Shared) (Q:VK) (u:Value) (s':Shared):Prop:=
 ∃v H',s'.os=s.os/\AllBare s'.gens/\Un (frs outer) [] H H' s.heap s'.heap/\HOk P w H' s'.heap/\Ym v u/\Q v H'
def CR (CX:CXT) (outer:List Env) (P:Program) (w:World) (H:Hp) (s:Shared) (Q:VK) (E:XK) (r:Result) (s':Shared):Prop:=
 match r with
 |.ok (.ret u)=>CE outer P w H s Q u s'
 |.ok _=>False
 |.error e=>CX outer H s E e s'
structure Yv (P:Program) (w:World) (K:W.Frag) (mg:Str->Option Value) (base:Heap) (CX:CXT) (k:Nat) (f:Addr) (fd:FuncData) (ps:List Str) (sp:Sp):Prop where
 len:∀vs H Q E,sp vs H Q E->vs.length=ps.length
 run:∀(A:Around) (outer:List Env) (s:Shared) (H:Hp) (args:Args) (us:List Value) (vs:List V) (Q:VK) (E:XK),JJ k A->Env0 P w K mg base A outer s H->BindsTo s fd args (ps.zip us)->Yi vs us->sp vs H Q E->
  codeAny (model P w) A (.call (.ref f) args) (CR CX outer P w H s Q E) s
theorem Env0.make {P:Program}{w:World}{K:W.Frag}{mg:Str->Option Value}{base:Heap}{A:Around}{outer:List Env}{s:Shared}{H:Hp} (e:Env0 P w K mg base A outer s H) (C:Addr) (us:List Value) (kw:List (Str×Value)):
  Env0 P w K mg base (A.under (.builtin "type.__call__" ⟨.ref C :: us,kw⟩)) outer s H:=⟨by first |exact e.frames |(simpa [Around.under,Code.envs,Code.isFrame,pushEnvs] using e.frames),e.mod,e.bs,e.bsz,e.funs,e.frf,e.hok,e.bare⟩
section
variable {X:Cx}{pins:List (Addr×Obj)}{σ:St}{H:Hp}{s s':Shared}
theorem Inv.env0 (I:Inv X pins σ H s):Env0 X.prog X.w X.K X.mg X.base X.A X.stack s H:=
 ⟨I.ok.frames,I.ok.mod,I.bs,YJR I.ok.bsz I.sz,I.stack,I.stkFree,I.hok,I.bare⟩
theorem Inv.after {Q:VK}{u:Value} (I:Inv X pins σ H s) (h:CE X.stack X.prog X.w H s Q u s'):EP X pins σ Q u s':=by
 obtain⟨v,H',os,bare,un,hok,r,q⟩:=h;obtain⟨hh,g,d,t,yF⟩:=s';obtain rfl:yF=s.os:=os;exact⟨v,H',I.call (h':=hh) (g':=g) (d':=d) (t':=t) (ch:=[]) un hok bare (λb z=>absurd z (by simp)),r,q⟩
end
def tCall (sp:Sp) (iy:List V) (E:XK) (t:TA):TE:=λσ H Q=>t σ H λvs H1=>sp (vs ++ iy) H1 Q E
inductive YH5 (C:Addr) (m:Str) (sp:Sp) (iy:List V) (E:XK) (t:TA) (σ:St) (Q:VK) (x:V) (H1:Hp):Prop where
 |mk (a:_) (dx:_) (fs:_) (aQ:x=.ref a) (aR:H1 a=some (.ins C dx fs)) (bu:fs.lookup m=none) (cM:t σ H1 λvs H2=>sp (x :: (vs ++ iy)) H2 Q E):YH5 C m sp iy E t σ Q x H1
def tMeth (C:Addr) (m:Str) (sp:Sp) (iy:List V) (E:XK) (ta:TE) (t:TA):TE:=λσ H Q=>ta σ H λx H1=>YH5 C m sp iy E t σ Q x H1
def tMake (C:Addr) (sp:Sp) (iy:List V) (E:XK) (t:TA):TE:=λσ H Q=>t σ H λvs H1=>∀x dx,H1 x=none->H1 dx=none->dx≠x->
 sp (.ref x :: (vs ++ iy)) (upd (upd H1 dx (.own x)) x (.ins C dx [])) (λv H2=>v=.non/\Q (.ref x) H2) E
def Xh (K:W.Frag) (fd:FuncData) (ps:List Str) (ds:List Value):Prop:=
 ∀(s:Shared) (us:List Value),K.In s.heap->(us ++ ds).length=ps.length->BindsTo s fd ⟨us,[]⟩ (ps.zip (us ++ ds))
theorem Xh.all {K:W.Frag}{fd:FuncData}{ps:List Str} (h:∀us:List Value,us.length=ps.length->bindArgs fd ⟨us,[]⟩=pure (ps.zip us)):Xh K fd ps []:=λs us _ hl=>by
 rw[List.append_nil]at hl ⊢;exact .of_eq (h us hl)
def Xi (CX:CXT) (X:Cx) (E:XK):Prop:=∀(pins:List (Addr×Obj)) (σ:St) (H:Hp) (s:Shared) (e:Value) (s':Shared),Inv X pins σ H s->CX X.stack H s E e s'->X.xe e s'
section
variable {X:Cx}{CX:CXT}{k:Nat}{f C:Addr}{fd:FuncData}{ps:List Str}{sp:Sp}{iy:List V}{ds:List Value}{E:XK}{x m:Str}{p pos bZ:Pos}{e o:Expr}{es:List Expr}{ta:TE}{t:TA}
theorem YH6 {pins:List (Addr×Obj)}{σ:St}{H:Hp}{s:Shared}{Q:VK}{us:List Value}{vs:List V} (F:Yv X.prog X.w X.K X.mg X.base CX k f fd ps sp) (hr:JJ k X.A) (hb:Xh X.K fd ps ds) (hd:Yi iy ds) (hx:Xi CX X E)
  (I:Inv X pins σ H s) (r:Yi vs us) (h:sp (vs ++ iy) H Q E):wpAny (model X.prog X.w) X.A (call (.ref f) us) (EP X pins σ Q) X.xe s:=by
 have r2:Yi (vs ++ iy) (us ++ ds):=r.append hd;have hl:(us ++ ds).length=ps.length:=by rw[<-r2.length];exact F.len _ _ _ _ h
 refine wpAny_call (codeAny_mono (F.run X.A X.stack s H ⟨us,[]⟩ (us ++ ds) (vs ++ iy) Q E hr I.env0 (hb s us I.kIn hl) r2 h) λr s' hq=>?_);cases r with
 |error e=>exact hx pins σ H s e s' I hq
 |ok fl=>
  cases fl with
  |ret u=>exact I.after hq
  |next=>exact False.elim hq
  |brk=>exact False.elim hq
  |cont=>exact False.elim hq
theorem YK (F:Yv X.prog X.w X.K X.mg X.base CX k f fd ps sp) (hr:JJ k X.A) (hg:Gl X x) (hm:X.mg x=some (.ref f)) (hk:PySem.W.keepIn X.K (.ref f)=true) (hb:Xh X.K fd ps ds) (hd:Yi iy ds) (hx:Xi CX X E)
  (ha:PA X (e :: es) t) (hdb:(x == ("__debug__":Str))=false:=by decide) (he:starEach (e :: es) X.env=(false,eval e X.env) :: starEach es X.env:=by rfl) (hpl:(backTo pos (starEach es X.env)).any (·.1)=false:=by rfl):
  PE X (.Call (.Name x p) (e :: es) [] pos) (tCall sp iy E t):=by
 intro pins s σ H Q I h;refine wpAny_Call_Name_kw (YB4 I hg hm ?_ hdb);refine PySem.W.callWith_K (h₀:=X.base) I.ok.mod.kin hk (thn (ha pos pins s σ H _ I h) λus s1 ⟨vs,H1,I1,r,q⟩=>⟨I1.kIn,?_⟩) he hpl;exact YH6 F hr hb hd hx I1 r q
theorem YEJ {pl:Sem Bool} (he:PE X o ta) (c:Cls X.K C) (hm:Meth X.K C m f) (F:Yv X.prog X.w X.K X.mg X.base CX k f fd ps sp) (hr:JJ k X.A) (hb:Xh X.K fd ps ds) (hd:Yi iy ds) (hx:Xi CX X E) (ha:PA X (e :: es) t)
  (hst:starEach (e :: es) X.env=(false,eval e X.env) :: starEach es X.env:=by rfl) (hpl:(backTo pos (starEach es X.env)).any (·.1)=false:=by rfl)
  (ht:eval (.Call (.Attribute o m bZ) (e :: es) [] pos) X.env=(do
   let ov <-eval o X.env
   standAt bZ.atName
   let (f,first) <-holding [ov] (getMethod ov m pl)
   callWith pos f first (backTo pos (starEach (e :: es) X.env)) (backToKw pos (keywordEach [] X.env))):=by rfl):
  PE X (.Call (.Attribute o m bZ) (e :: es) [] pos) (tMeth C m sp iy E ta t):=by
 intro pins s σ H Q I h;refine PySem.W.methodCall_KW (pl:=pl) (thn (he pins s σ H _ I h) λu s1 ⟨x,H1,I1,rx,a,dx,fs,ex,ea,l,q⟩=>?_) ht;subst ex;obtain rfl:u=Value.ref a:=rx;refine YFx I1 ea c hm l ?_;refine PySem.W.callWith_K (first:=[.ref a]) (h₀:=X.base) I.ok.mod.kin hm.kp (thn (ha pos pins s1 σ H1 _ I1 q) λus s2 ⟨vs,H2,I2,r,q2⟩=>⟨I2.kIn,?_⟩) hst hpl;exact YH6 (us:=.ref a :: us) (vs:=.ref a :: vs) F hr hb hd hx I2 (.cons rfl r) q2
structure Mk (K:W.Frag) (C f:Addr):Prop where
 makes:PySem.W.makesIn K C=true
 init:PySem.W.findIn K (.ref C) "__init__"=some (some (.ref f))
 fn:PySem.W.isFn K (.ref f)=true
 kp:PySem.W.keepIn K (.ref C)=true
theorem YH7 {pins:List (Addr×Obj)}{σ:St}{H:Hp}{s:Shared}{Q:VK}{us:List Value}{vs:List V} (M:Mk X.K C f) (F:Yv X.prog X.w X.K X.mg X.base CX k f fd ps sp) (hr:JJ (k + 1) X.A) (hb:Xh X.K fd ps ds) (hd:Yi iy ds)
  (hx:Xi CX X E) (I:Inv X pins σ H s) (r:Yi vs us)
  (h:∀x dx,H x=none->H dx=none->dx≠x->sp (.ref x :: (vs ++ iy)) (upd (upd H dx (.own x)) x (.ins C dx [])) (λv H2=>v=.non/\Q (.ref x) H2) E):
  wpAny (model X.prog X.w) X.A (call (.ref C) us) (EP X pins σ Q) X.xe s:=by
 have hq:=h (s.heap.objs.size + 1) s.heap.objs.size (I.hok.fresh (YKP _)) (I.hok.fresh (YJB _)) (YJc (Nat.lt_succ_self _));have I2:=Inv.made (C:=C) I;have r2:Yi (V.ref (s.heap.objs.size + 1) :: (vs ++ iy)) (Value.ref (s.heap.objs.size + 1) :: (us ++ ds)):=.cons rfl (r.append hd);have hl:(Value.ref (s.heap.objs.size + 1) :: us ++ ds).length=ps.length:=by
  have e:=r2.length;rw[F.len _ _ _ _ hq]at e;exact e.symm
 refine wpAny_call (YH4 (f:=f) I.kIn M.makes M.init (beq_iff_eq.mp M.fn) (codeAny_mono (F.run _ X.stack _ _ ⟨Value.ref (s.heap.objs.size + 1) :: us,[]⟩ (Value.ref (s.heap.objs.size + 1) :: (us ++ ds)) _ _ E (hr.make C us [])
  (I2.env0.make C us []) (hb _ (Value.ref (s.heap.objs.size + 1) :: us) I2.kIn hl) r2 hq) λr s' hq'=>?_))
 cases r with
 |error e=>exact hx pins σ _ _ e s' I2 hq'
 |ok fl=>
  cases fl with
  |ret u=>
   obtain⟨v,H',I3,rv,ev,q3⟩:=I2.after hq';subst ev;exact⟨rv,⟨V.ref (s.heap.objs.size + 1),H',I3,U,q3⟩⟩
  |next=>exact False.elim hq'
  |brk=>exact False.elim hq'
  |cont=>exact False.elim hq'
theorem YEw (M:Mk X.K C f) (F:Yv X.prog X.w X.K X.mg X.base CX k f fd ps sp) (hr:JJ (k + 1) X.A) (hg:Gl X x) (hm:X.mg x=some (.ref C)) (hb:Xh X.K fd ps ds) (hd:Yi iy ds) (hx:Xi CX X E)
  (hdb:(x == ("__debug__":Str))=false:=by decide):PE X (.Call (.Name x p) [] [] pos) (tMake C sp iy E tNil):=by
 intro pins s σ H Q I h;refine wpAny_Call_Name_kw (YB4 I hg hm ?_ hdb);exact PySem.W.callWith_K0 I.kIn M.kp (YH7 (us:=[]) M F hr hb hd hx I .nil h)
end
section
variable {X:Cx}{CX:CXT}{k:Nat}{f C:Addr}{fd:FuncData}{ps ks:List Str}{sp:Sp}{E:XK}{x m:Str}{p pos bZ kpos:Pos}{e o:Expr}{es:List Expr}{kws:List Keyword}{te ta:TE}{t tk:TA}{nm:Option Str}
variable {g:List Value->List Value->List Value}{gV:List V->List V->List V}
end
structure YS (N P:List Str) (sc:Scope):Prop where
 kind:sc.kind=.function
 co:sc.isCoroutine=false
 gen:sc.isGenerator=false
 nd:N.Nodup
 pre:N.take P.length=P
 par:∀x∈P,sc.names.lookup x=some .local\/sc.names.lookup x=some .cell
 nofree:∀y∈sc.names,y.2≠.free
theorem YDb {kindOf:Str->Option NameKind}{x:Str}:∀{binds:List (Str×Value)}{m:Str->Option Value},(∀v,(x,v)∉binds)->bindL kindOf binds m x=m x
 |[],_,_=>rfl
 |(n,v) :: r,m,h=>by
  unfold bindL;rw[YDb λw hw=>h w (YJD _ hw)];split
  ·have:x≠n:=by rintro rfl;exact h v YJI
   simp[this]
  ·rfl
theorem YDc {kindOf:Str->Option NameKind}{x:Str}:∀{binds:List (Str×Value)}{m:Str->Option Value},(∀v,(x,v)∉binds)->bindC kindOf binds m x=m x
 |[],_,_=>rfl
 |(n,v) :: r,m,h=>by
  unfold bindC;rw[YDc λw hw=>h w (YJD _ hw)];split
  ·rfl
  ·have:x≠n:=by rintro rfl;exact h v YJI
   simp[this]
theorem YDd {kindOf:Str->Option NameKind}{x:Str}{v:Value}:∀{P:List Str}{vs:List Value}{i:Nat}{m:Str->Option Value},P.Nodup->P[i]?=some x->vs[i]?=some v->kindOf x=some .local->
  bindL kindOf (P.zip vs) m x=some v
 |[],_,_,_,_,h,_,_=>by simp at h
 |_ :: _,[],_,_,_,_,h,_=>by simp at h
 |p :: P,w :: vs,0,m,nd,h1,h2,hk=>by
  simp at h1 h2;subst h1;subst h2;show bindL kindOf ((p,w) :: P.zip vs) m p=_;unfold bindL;rw[YDb λv hv=>(YJo.mp nd).1 (List.of_mem_zip hv).1,if_pos hk];simp
 |p :: P,w :: vs,i + 1,m,nd,h1,h2,hk=>by
  show bindL kindOf ((p,w) :: P.zip vs) m x=_;unfold bindL;exact YDd (i:=i) (YJo.mp nd).2 (by simpa using h1) (by simpa using h2) hk
theorem YDe {kindOf:Str->Option NameKind}{x:Str}{v:Value}:∀{P:List Str}{vs:List Value}{i:Nat}{m:Str->Option Value},P.Nodup->P[i]?=some x->vs[i]?=some v->kindOf x≠some .local->
  bindC kindOf (P.zip vs) m x=some v
 |[],_,_,_,_,h,_,_=>by simp at h
 |_ :: _,[],_,_,_,_,h,_=>by simp at h
 |p :: P,w :: vs,0,m,nd,h1,h2,hk=>by
  simp at h1 h2;subst h1;subst h2;show bindC kindOf ((p,w) :: P.zip vs) m p=_;unfold bindC;rw[YDc λv hv=>(YJo.mp nd).1 (List.of_mem_zip hv).1,if_neg hk];simp
 |p :: P,w :: vs,i + 1,m,nd,h1,h2,hk=>by
  show bindC kindOf ((p,w) :: P.zip vs) m x=_;unfold bindC;exact YDe (i:=i) (YJo.mp nd).2 (by simpa using h1) (by simpa using h2) hk
def start (N:List Str) (vs:List V):St:=vs.map some ++ List.replicate (N.length - vs.length) none
def YBA (CX:CXT) (P:Program) (w:World) (K:W.Frag) (mg:Str->Option Value) (base:Heap) (N:List Str) (qual:Str) (scope:Scope) (f:Addr) (cd:Value) (A:Around) (outer:List Env) (s:Shared) (H:Hp) (E:XK):Cx where
 prog:=P
 w:=w
 K:=K
 mg:=mg
 base:=base
 A:=A.deeper (envOfC qual scope s.heap.objs.size f cd)
 N:=N
 s₀:=s
 H₀:=H
 env:=envOfC qual scope s.heap.objs.size f cd
 outer:=outer
 stack:=envOfC qual scope s.heap.objs.size f cd :: outer
 ex:=[]
 calm:=true
 fn:=λ_=>true
 pn:=[]
 xe:=λe s'=>wpAny (model P w) (A.deeper (envOfC qual scope s.heap.objs.size f cd)) (leaving (envOfC qual scope s.heap.objs.size f cd) e) (λ_ mO=>CX outer H s E e mO) (λe' mO=>CX outer H s E e' mO) s'
theorem J4 {sc:Scope}{n:Nat}{x:Str} (h:sc.names.lookup x=some .cell):∃c,(cellsFrom n sc.names []).lookup x=some c:=by
 have q:=PySem.W.cellsFrom_some sc.names n [] (.inl h);exact Option.isSome_iff_exists.mp q
theorem YHK {CX:CXT}{P:Program}{w:World}{K:W.Frag}{mg:Str->Option Value}{base:Heap}{N ps:List Str}{qual:Str}{scope:Scope}{f:Addr}{cd:Value}{A:Around}{outer:List Env}{s s1:Shared}{H:Hp}{E:XK}{us:List Value}{vs:List V}
  (S:YS N ps scope) (hd:A.handled=none) (e0:Env0 P w K mg base A outer s H) (hl:vs.length=ps.length) (r:Yi vs us)
  (x:InCallC s s.heap.objs.size (bindL (envOfC qual scope s.heap.objs.size f cd).kindOf (ps.zip us) λ_=>none) (cellsFrom (s.heap.objs.size + 1) scope.names []) (bindC (envOfC qual scope s.heap.objs.size f cd).kindOf (ps.zip us) λ_=>none) s1):
  Inv (YBA CX P w K mg base N qual scope f cd A outer s H E) [] (start N vs) H s1:=by
 have hpl:ps.length<=N.length:=by have:=YJ2 List.length S.pre;rw[YJ6]at this;omega
 obtain⟨h1,tk,rfl,hk⟩:=x.done;have noA:∀b:Addr,b∉(YBA CX P w K mg base N qual scope f cd A outer s H E).ex:=λb z=>absurd (show b∈([]:List Addr) from z) (by simp)
 refine⟨⟨e0.mod,S.kind,U,U,YJB _,λy z c h1 h2=>?_,λy hy=>?_,λy c _ h=>?_,λ_=>hd,Around.frames_deeper e0.frames,.inr ⟨U,U⟩,λb z=>absurd z (noA b),e0.bs,e0.bsz,λb _ _=>noA b,λb z=>absurd z (noA b),e0.funs,e0.frf⟩,
  rfl,e0.bare,Un.kept hk,⟨_,x.toInCall.ns,λi y v h1 h2 h3=>?_⟩,λy c h=>⟨_,x.cell y c h⟩,e0.hok.fresh (YJB _),λy c h=>?_,λp hp=>absurd (show p∈([]:List (Addr×Obj)) from hp) (by simp),e0.hok.kept hk,?_⟩
 ·exact name_of_addr x.apart (PySem.mem_of_lookup h1) (PySem.mem_of_lookup h2)
 ·have hy:scope.names.lookup y=some .cell\/scope.names.lookup y=some .free:=hy;rcases hy with hy |hy
  ·exact J4 hy
  ·exact absurd rfl (S.nofree _ (PySem.mem_of_lookup hy))
 ·exact Nat.le_of_lt (x.above y c (PySem.mem_of_lookup h))
 ·have hi:i < vs.length:=by
   unfold start at h2
   by_cases hi:i < vs.length
   ·exact hi
   ·rw[List.getElem?_append_right (by simpa using hi)]at h2;rw[List.getElem?_replicate]at h2;split at h2 <;> cases h2
  have ha:vs[i]?=some v:=by
   unfold start at h2;rw[YKO (by simpa using hi),YJG]at h2;cases e:vs[i]? with
   |none=>rw[e]at h2;cases h2
   |some a=>rw[e]at h2;cases h2;rfl
  obtain⟨u,hu,rv⟩:=r.get ha;have hp:ps[i]?=some y:=by
   rw[<-S.pre,List.getElem?_take_of_lt (by omega)];exact h1
  have ndP:ps.Nodup:=by rw[<-S.pre];exact S.nd.sublist (List.take_sublist _ _)
  refine⟨u,rv,?_⟩;rcases S.par y (YJF hp) with k |k
  ·exact .inl ⟨k,YDd ndP hp hu k⟩
  ·obtain⟨c,e⟩:=J4 (n:=s.heap.objs.size + 1) k;refine .inr ⟨.inl k,c,e,?_⟩;have q:=x.cell y c e;rw[YDe ndP hp hu (by show scope.names.lookup y≠_;rw[k];decide)]at q;exact q
 ·exact e0.hok.fresh (Nat.le_of_lt (x.above y c (PySem.mem_of_lookup h)))
 ·unfold start;show _=N.length;rw[YJL,YI6,List.length_replicate];omega
theorem fn_of {CX:CXT}{P:Program}{w:World}{K:W.Frag}{mg:Str->Option Value}{base:Heap}{k:Nat}{f:Addr}{name qual:Str}{params:Arguments}{body:List Stmt}{scope:Scope}{dV kV doc pm aB ct oc:Value}{an od:Option Addr}
  {osl:Array (Option Value)}{N ps:List Str}{sp:Sp} (lk:K.lookup f=some ⟨oc,od,.func (PySem.W.fnOf name qual params body scope dV kV doc pm an aB ct),osl⟩) (hcd:PySem.W.codeIn K aB qual=true) (S:YS N ps scope)
  (len:∀vs H Q E,sp vs H Q E->vs.length=ps.length)
  (hbody:∀(A:Around) (outer:List Env) (s:Shared) (H:Hp) (vs:List V) (Q:VK) (E:XK),JJ k (A.deeper (envOfC qual scope s.heap.objs.size f aB))->sp vs H Q E->
   ∃t,PSs (YBA CX P w K mg base N qual scope f aB A outer s H E) body t/\t { nx:=λ_ H'=>Q .non H',rt:=Q } (start N vs) H):
  Yv P w K mg base CX (k + 1) f (PySem.W.fnOf name qual params body scope dV kV doc pm an aB ct) ps sp:=by
 refine⟨len,λA outer s H args us vs Q E hr e0 hb r hsp=>?_⟩;have hl:=len _ _ _ _ hsp;have KX:K.In s.heap:=e0.mod.kin.keeps λb o e=>(e0.bs b o e).1
 have lim:s.heap.NoLimit:=e0.mod.nolimit.keeps λb o e=>(e0.bs b o e).1
 have hkind:∀y∈ps.zip us,scope.names.lookup y.1=some .local\/(scope.names.lookup y.1=some .cell/\((cellsFrom (s.heap.objs.size + 1) scope.names []).lookup y.1).isSome=true):=λ⟨n,v⟩ hy=>by
  rcases S.par n (List.of_mem_zip hy).1 with q |q
  ·exact .inl q
  ·exact .inr ⟨q,PySem.W.cellsFrom_some _ _ _ (.inl q)⟩
 refine codeAny_call_function hr.depth (KX _ _ lk) rfl S.co S.gen rfl (PySem.W.codeRec_of KX hcd) (hb _ _ _ _ ?_);refine wpAny_newFunctionEnv_cells S.kind hkind λenv he s1 x=>?_
 subst he;refine⟨lim.keeps x.toInCall.keep,codeAny_func ?_⟩;obtain⟨t,ht,hq⟩:=hbody A outer s H vs Q E (hr.deeper _) hsp;have I:Inv (YBA CX P w K mg base N qual scope f aB A outer s H E) [] (start N vs) H s1:=YHK S hr.hd e0 hl r x;refine wpAny_mono (ht [] s1 (start N vs) H _ I hq) (λfl s' hs=>?_) λe s' hs=>hs
 have fin:∀{σ':St}{H':Hp}{v:V}{u:Value},Inv (YBA CX P w K mg base N qual scope f aB A outer s H E) [] σ' H' s'->Ym v u->Q v H'->CE outer P w H s Q u s':=
  λ{σ' H' v u} J rv q=>⟨v,H',J.os,J.bare,J.base,J.hok,rv,q⟩
 cases fl with
 |ret u=>
  obtain⟨v,σ',H',J,rv,q⟩:=hs;exact fin J rv q
 |next=>
  obtain⟨σ',H',J,q⟩:=hs;exact fin (v:=V.non) (u:=Value.none) J rfl q
 |brk=>
  obtain⟨_,_,_,q⟩:=hs;exact False.elim q
 |cont=>
  obtain⟨_,_,_,q⟩:=hs;exact False.elim q
end L2
namespace L2
open PySem PySem.Spec PyProof.Rows
section
variable {X:Cx}{x:Str}{p pos:Pos}{e:Expr}{es:List Expr}{t:TA}{id T:String}{r:List V->Hp->VK->Prop}
def tCB (r:List V->Hp->VK->Prop) (t:TA):TE:=λσ H Q=>t σ H λvs H1=>r vs H1 Q
theorem YQ (hc:Zr X (.builtin id) r) (hg:Gl X x) (hm:X.mg x=none) (hv:bootBuiltins x=some (.builtin id)) (ha:PA X (e :: es) t) (hn:x≠"__name__":=by decide) (hdb:(x == ("__debug__":Str))=false:=by decide)
  (he:starEach (e :: es) X.env=(false,eval e X.env) :: starEach es X.env:=by rfl) (hpl:(backTo pos (starEach es X.env)).any (·.1)=false:=by rfl):PE X (.Call (.Name x p) (e :: es) [] pos) (tCB r t):=by
 intro pins s σ H Q I h;refine wpAny_Call_Name_kw (YAQ I hg hm hv ?_ hn hdb);exact PyProof.Rows.callWith_builtin1 (thn (ha pos pins s σ H _ I h) λus s1 ⟨vs,H1,I1,r1,q1⟩=>hc pins s1 σ H1 vs us Q I1 r1 q1) he hpl
theorem Yx (hc:Zr X (.type T) r) (hg:Gl X x) (hm:X.mg x=none) (hv:bootBuiltins x=some (.type T)) (ha:PA X (e :: es) t) (hn:x≠"__name__":=by decide) (hdb:(x == ("__debug__":Str))=false:=by decide)
  (he:starEach (e :: es) X.env=(false,eval e X.env) :: starEach es X.env:=by rfl) (hpl:(backTo pos (starEach es X.env)).any (·.1)=false:=by rfl):PE X (.Call (.Name x p) (e :: es) [] pos) (tCB r t):=by
 intro pins s σ H Q I h;refine wpAny_Call_Name_kw (YAQ I hg hm hv ?_ hn hdb);exact PyProof.Rows.callWith_type1 (thn (ha pos pins s σ H _ I h) λus s1 ⟨vs,H1,I1,r1,q1⟩=>hc pins s1 σ H1 vs us Q I1 r1 q1) he hpl
end
end L2
namespace HT
open PySem PyProof.Rows
section
open PySem.SeqAt
open PySem.AutoSeq1 (wpAny_loadPart')
open PySem.MeetsSeq PySem.MeetsSeq2 PySem.MeetsSeq3
end
section
variable {prog:Program}{w:World}{A:Around}{E:Value->Shared->Prop}{s:Shared}
def sIx (n d:Nat):Option Int->Nat
 |none=>d
 |some v=>if v < 0 then (v + (n:Int)).toNat else min v.toNat n
theorem sIx_nat (n d k:Nat):sIx n d (some (k:Int))=min k n:=by
 show(if (k:Int) < 0 then ((k:Int) + (n:Int)).toNat else min (k:Int).toNat n)=min k n;rw[if_neg (by omega),Int.toNat_natCast]
end
end HT
namespace L2
open PySem PySem.Spec PyProof.Rows
abbrev TO:=St->Hp->(Option Int->Hp->Prop)->Prop
def PO (X:Cx) (e:Option Expr) (t:TO):Prop:=
 ∀(pins:List (Addr×Obj)) (s:Shared) (σ:St) (H:Hp) (Q:Option Int->Hp->Prop),Inv X pins σ H s->t σ H Q->
  wpAny (model X.prog X.w) X.A (evalPart e X.env) (λu s'=>∃o H',Inv X pins σ H' s'/\IsPart u o/\Q o H') X.xe s
def tNoPart:TO:=λ_ H Q=>Q none H
inductive YH8 (Q:Option Int->Hp->Prop) (x:V) (H1:Hp):Prop where
 |mk (i:_) (aQ:x=.int i) (aR:Q (some i) H1):YH8 Q x H1
def tPart (t:TE):TO:=λσ H Q=>t σ H λx H1=>YH8 Q x H1
section
variable {X:Cx}{e:Expr}{te:TE}{lo hi:Option Expr}{tl th:TO}{pos p2:Pos}
theorem YB7:PO X none tNoPart:=by
 intro pins s σ H Q I h;rw[evalPart_none];exact YJm ⟨none,H,I,.none,h⟩
theorem X5 (h:PE X e te):PO X (some e) (tPart te):=by
 intro pins s σ H Q I hw;rw[evalPart_some];refine thn (h pins s σ H _ I hw) λu s1 ⟨x,H1,I1,r1,q1⟩=>?_
 obtain⟨i,rfl,q⟩:=q1;obtain⟨t,rfl⟩:=r1;exact⟨some i,H1,I1,.int i t,q⟩
def SlR (X:Cx) (r:V->Option Int->Option Int->Hp->VK->Prop):Prop:=
 ∀(pins:List (Addr×Obj)) (s:Shared) (σ:St) (H:Hp) (x:V) (v vl vu:Value) (lo hi:Option Int) (sl:Addr) (Q:VK),Inv X pins σ H s->Ym x v->s.heap.IsSliceOf sl vl vu .none->IsPart vl lo->IsPart vu hi->r x lo hi H Q->
  ∃T id,typeLookup (.type T) "__getitem__"=pure (some (.builtin id))/\s.TypeIs v T/\wpAny (model X.prog X.w) X.A (getItem v (.ref sl)) (EP X pins σ Q) X.xe s
def tSl (r:V->Option Int->Option Int->Hp->VK->Prop) (te:TE) (tl th:TO):TE:=λσ H Q=>te σ H λx H1=>tl σ H1 λl H2=>th σ H2 λu H3=>r x l u H3 Q
theorem Xj {r:V->Option Int->Option Int->Hp->VK->Prop} (hr:SlR X r) (he:PE X e te) (hl:PO X lo tl) (hu:PO X hi th):PE X (.Subscript e (.Slice lo hi none p2) pos) (tSl r te tl th):=by
 intro pins s σ H Q I h;refine Subscript_ (thn (he pins s σ H _ I h) λv s1 ⟨x,H1,I1,r1,q1⟩=>?_);refine wpAny_Slice (thn (hl pins s1 σ H1 _ I1 q1) λvl s2 ⟨l,H2,I2,pl,q2⟩=>thn (hu pins s2 σ H2 _ I2 q2) λvu s3 ⟨u,H3,I3,pu,q3⟩=>?_);rw[evalPart_none];refine YJm ?_;have I4:Inv X pins σ H3 { s3 with heap:=s3.heap.push { cls:=.type "slice",data:=.fields #[vl,vu,.none] } }:=I3.kept (t':=s3.toks) λb ob q=>YI9 _ q
 obtain⟨T,id,hT,ht,hg⟩:=hr pins { s3 with heap:=s3.heap.push { cls:=.type "slice",data:=.fields #[vl,vu,.none] } } σ H3 x v vl vu l u s3.heap.objs.size Q I4 r1 (Heap.IsSliceOf.new ..) pl pu q3;show wpAny (model X.prog X.w) X.A (subscriptTail e (.Slice lo hi none p2) v (.ref s3.heap.objs.size)) (EP X pins σ Q) X.xe { s3 with heap:=s3.heap.push { cls:=.type "slice",data:=.fields #[vl,vu,.none] } };exact tail_any (ops:=[.ref s3.heap.objs.size,v]) ht hT hg (by with_unfolding_all rfl)
def YDD (xs:List V) (lo hi:Option Int):List V:=(xs.drop (HT.sIx xs.length 0 lo)).take (HT.sIx xs.length xs.length hi - HT.sIx xs.length 0 lo)
theorem YEx (xs:List V) (lo hi:Option Int):(YDD xs lo hi).length<=xs.length:=by
 unfold YDD;rw[YJ6,List.length_drop];omega
end
end L2
namespace L2
open PySem PySem.Spec PyProof.Rows
def ixN (n:Nat) (i:Int):Option Nat:=if 0<=i then (if i < n then some i.toNat else none) else if -(n:Int)<=i then some (i + n).toNat else none
def atI {α:Type} (xs:List α) (i:Int):Option α:=(ixN xs.length i).bind λj=>xs[j]?
theorem ixN_seq {n:Nat}{i:Int}{j:Nat} (h:ixN n i=some j):seqIndex? i n=some j/\j < n/\-(n:Int)<=i/\i < n:=by
 unfold ixN at h
 by_cases h0:0<=i
 ·rw[if_pos h0]at h
  by_cases h1:i < n
  ·rw[if_pos h1]at h;have e:i.toNat=j:=YJf h;exact⟨by rw[seqIndex_of h0 h1,e],by omega,by omega,h1⟩
  ·rw[if_neg h1]at h;cases h
 ·rw[if_neg h0]at h
  by_cases h1:-(n:Int)<=i
  ·rw[if_pos h1]at h;have e:(i + n).toNat=j:=YJf h;exact⟨by rw[seqIndex_neg (by omega) h1,e],by omega,h1,by omega⟩
  ·rw[if_neg h1]at h;cases h
theorem YEK {α:Type}{xs:List α}{i:Int}{v:α} (h:atI xs i=some v):∃j,seqIndex? i xs.length=some j/\xs[j]?=some v/\j < xs.length/\-(xs.length:Int)<=i/\i < xs.length:=by
 unfold atI at h;cases e:ixN xs.length i with
 |none=>rw[e]at h;cases h
 |some j=>
  rw[e]at h;obtain⟨h1,h2,h3,h4⟩:=ixN_seq e;exact⟨j,h1,h,h2,h3,h4⟩
theorem ZH {α:Type}{xs:List α}{j:Nat}{v:α} (h:xs[j]?=some v):atI xs (j:Int)=some v:=by
 have hj:j < xs.length:=(YJe.mp h).1;have e:ixN xs.length (j:Int)=some j:=by
  unfold ixN;rw[if_pos (by omega),if_pos (by omega)];simp
 unfold atI;rw[e];exact h
def PlainIx (b:Expr):Prop:=∀o i,subscripted b false o i=operate [o,i] (getItem o i)
def IxR (X:Cx) (r:R2):Prop:=
 ∀(value slice:Expr) (pins:List (Addr×Obj)) (s:Shared) (σ:St) (H:Hp) (x y:V) (v u:Value) (Q:VK),Inv X pins σ H s->Ym x v->Ym y u->r x y H Q->
  subscripted slice false v u=operate [v,u] (getItem v u)->wpAny (model X.prog X.w) X.A (subscriptTail value slice v u) (EP X pins σ Q) X.xe s
def MtR (X:Cx) (id:String) (r:V->List V->Hp->VK->Prop):Prop:=
 ∀(pins:List (Addr×Obj)) (s:Shared) (σ:St) (H:Hp) (x:V) (xs:List V) (v:Value) (us:List Value) (Q:VK),Inv X pins σ H s->Ym x v->Yi xs us->r x xs H Q->
  wpAny (model X.prog X.w) X.A (call (.builtin id) (v :: us)) (EP X pins σ Q) X.xe s
section
variable {X:Cx}{a b:Expr}{ta tb:TE}{pos:Pos}
theorem YR {r:R2} (hr:IxR X r) (ha:PE X a ta) (hb:PE X b tb) (hs:PlainIx b):PE X (.Subscript a b pos) (tOp r ta tb):=by
 intro pins s σ H Q I h;exact Subscript_ (binT ha hb I h λv u s2 x y H2 I2 rx ry q=>hr a b pins s2 σ H2 x y v u Q I2 rx ry q (hs _ _))
inductive rIxL_ (K:W.Frag) (x:V) (y:V) (H:Hp) (Q:VK):Prop where
 |mk (p:_) (xs:_) (i:_) (v:_) (aQ:x=.ref p) (aR:y=.int i) (bu:SqL K H p xs) (cM:atI xs i=some v) (dR:Q v H):rIxL_ K x y H Q
def rIxL (K:W.Frag):R2:=λx y H Q=>rIxL_ K x y H Q
inductive rIxT_ (K:W.Frag) (x:V) (y:V) (H:Hp) (Q:VK):Prop where
 |mk (p:_) (xs:_) (i:_) (v:_) (aQ:x=.ref p) (aR:y=.int i) (bu:SqT K H p xs) (cM:atI xs i=some v) (dR:Q v H):rIxT_ K x y H Q
def rIxT (K:W.Frag):R2:=λx y H Q=>rIxT_ K x y H Q
inductive rIxS_ (x:V) (y:V) (H:Hp) (Q:VK):Prop where
 |mk (z:_) (i:_) (c:_) (aQ:x=.str z) (aR:y=.int i) (bu:z.length<=sizeLine) (cM:atI z.cps.toList i=some c) (dR:Q (.str ⟨#[c]⟩) H):rIxS_ x y H Q
def rIxS:R2:=λx y H Q=>rIxS_ x y H Q
theorem ix_list:IxR X (rIxL X.K):=by
 intro value slice pins s σ H x y v u Q I rx ry h hs;obtain⟨p,xs,i,z,rfl,rfl,hq,he,q⟩:=h;cases rx;obtain⟨t,rfl⟩:=ry;obtain⟨its,r,pl,hz⟩:=I.list hq;obtain⟨j,h1,h2,h3,h4,h5⟩:=YEK he;obtain⟨w,ew,k_⟩:=r.get h2;have hl:=r.length;have hn:=YA7;have fin:EP X pins σ Q w s:=⟨z,H,I,k_,q⟩
 by_cases h0:0<=i
 ·have hj:i.toNat=j:=by
   rw[seqIndex_of h0 h5]at h1;exact YJf h1
  exact item_listR pl.isList h0 (by omega) (by rw[hj];simpa using ew) fin hs
 ·have hj:(i + (its.toArray.size:Int)).toNat=j:=by
   rw[seqIndex_neg (by omega) h4]at h1;rw[YJN,<-hl];exact YJf h1
  exact subscriptTail_builtinR (x:=w) pl.isList.typeIs slot_list_getitem.lookup
   (wpAny_getItem_list_neg (Q:=λr s'=>r=w/\EP X pins σ Q r s') pl.isList (by omega) (by rw[YJN] <;> omega) (by omega) (by rw[hj];simpa using ew) ⟨U,fin⟩) hs
theorem ix_tup:IxR X (rIxT X.K):=by
 intro value slice pins s σ H x y v u Q I rx ry h hs;obtain⟨p,xs,i,z,rfl,rfl,hq,he,q⟩:=h;cases rx;obtain⟨t,rfl⟩:=ry;obtain⟨its,r,pl,hz⟩:=I.tuple hq;obtain⟨j,h1,h2,h3,h4,h5⟩:=YEK he;obtain⟨w,ew,k_⟩:=r.get h2;have hl:=r.length;have hn:=YA7;have fin:EP X pins σ Q w s:=⟨z,H,I,k_,q⟩;exact subscriptTail_builtinR (x:=w) pl.typeIs slot_tuple_getitem.lookup
  (getItem_tuple (j:=j) (Q:=λr s'=>r=w/\EP X pins σ Q r s') pl (by omega) (by omega) (by rw[YJN,<-hl];exact h1) (by simpa using ew) ⟨U,fin⟩) hs
theorem Jv:IxR X rIxS:=by
 intro value slice pins s σ H x y v u Q I rx ry h hs;obtain⟨z,i,c,rfl,rfl,hz,he,q⟩:=h;obtain⟨t,rfl⟩:=rx;obtain⟨t',rfl⟩:=ry;obtain⟨j,h1,h2,h3,h4,h5⟩:=YEK he;have hl:z.cps.toList.length=z.length:=by simp[Str.length]
 rw[hl]at h1 h4 h5;have hn:=YA7;exact tail_any (typeIs_str s z t) slot_str_getitem.lookup (getItem_str (c:=c) (by
  have e1:decide (i < -(2 ^ 63:Int))=false:=YI8 (by omega);have e2:decide (i>=2 ^ 63)=false:=YI8 (by omega);rw[e1,e2,Bool.or_false]) (by rw[h1];simpa using h2) ⟨.str ⟨#[c]⟩,H,I.tok _,⟨_,U⟩,q⟩) hs
theorem YEL (lo hi:Option Int) (n:Nat):(sliceBounds lo hi none n).1=((HT.sIx n 0 lo:Nat):Int)/\(sliceBounds lo hi none n).2.1=((HT.sIx n n hi:Nat):Int)/\(sliceBounds lo hi none n).2.2=1:=by
 refine⟨?_,?_,U⟩
 ·cases lo with
  |none=>simp[sliceBounds,HT.sIx]
  |some i=>
   simp only[sliceBounds,HT.sIx,Option.getD_none,show(1:Int) > 0 by decide,if_true]
   by_cases h:i < 0
   ·simp only[h,if_true] <;> omega
   ·simp only[h,if_false] <;> omega
 ·cases hi with
  |none=>simp[sliceBounds,HT.sIx]
  |some i=>
   simp only[sliceBounds,HT.sIx,Option.getD_none,show(1:Int) > 0 by decide,if_true]
   by_cases h:i < 0
   ·simp only[h,if_true] <;> omega
   ·simp only[h,if_false] <;> omega
theorem YDE (its:List Value) (lo hi:Option Int):slicePick its.toArray lo hi none=((its.drop (HT.sIx its.length 0 lo)).take (HT.sIx its.length its.length hi - HT.sIx its.length 0 lo)).toArray:=by
 obtain⟨h1,h2,h3⟩:=YEL lo hi its.toArray.size;unfold slicePick;rw[h1,h2,h3];simp only[sliceRange_one,pick_run,YJN] <;> rfl
inductive rSlL_ (K:W.Frag) (x:V) (lo:Option Int) (hi:Option Int) (H:Hp) (Q:VK):Prop where
 |mk (a:_) (xs:_) (aQ:x=.ref a) (aR:SqL K H a xs) (bu:∀p,H p=none->Q (.ref p) (upd H p (.lst (YDD xs lo hi)))):rSlL_ K x lo hi H Q
def rSlL (K:W.Frag):V->Option Int->Option Int->Hp->VK->Prop:=λx lo hi H Q=>rSlL_ K x lo hi H Q
theorem sl_list:SlR X (rSlL X.K):=by
 intro pins s σ H x v vl vu lo hi sl Q I rx hs pl pu h;obtain⟨a,xs,rfl,hx,q⟩:=h;cases rx;obtain⟨its,r,ht,hz⟩:=I.list hx;have hlen:=r.length;refine⟨"list",_,slot_list_getitem.lookup,ht.isList.typeIs,?_⟩;refine wpAny_getItem_list_slice ht.isList hs pl pu .none (by simp) ?_ (by rw[YJN] <;> omega);rw[YDE,<-hlen];refine⟨.ref s.heap.objs.size,_,I.laid (t':=s.toks) (o:=.lst (YDD xs lo hi)) (λb ob q=>YI9 _ q) (YJB _) ?_,U,q _ (I.hok.fresh (YJB _))⟩;exact⟨YJR (YEx xs lo hi) hz,_,0,(r.drop (HT.sIx xs.length 0 lo)).take (HT.sIx xs.length xs.length hi - HT.sIx xs.length 0 lo),YJS _ rfl⟩
theorem YEM:Zr X (.builtin "len") (λxs H Q=>∃p ys,xs=[.ref p]/\(SqL X.K H p ys\/SqT X.K H p ys)/\Q (.int ys.length) H):=by
 intro pins s σ H xs us Q I r h;obtain⟨p,ys,rfl,hq,q⟩:=h;obtain⟨u,rfl,rx⟩:=Jo r;cases rx;have hn:=YA7;rcases hq with hq |hq
 ·obtain⟨its,r',pl,hz⟩:=I.list hq;have hlen:=r'.length;exact Calls.call_len_list pl.isList (by simp only[YJN] <;> omega) ⟨.int ys.length,H,I.tok _,⟨s.toks + 1,by rw[YJN,hlen]⟩,q⟩
 ·obtain⟨its,r',pl,hz⟩:=I.tuple hq;have hlen:=r'.length;exact len_tuple pl (by simp only[YJN] <;> omega) ⟨.int ys.length,H,I.tok _,⟨s.toks + 1,by rw[YJN,hlen]⟩,q⟩
theorem JP:Zr X (.builtin "len") (λxs H Q=>∃z,xs=[.str z]/\z.length<=sizeLine/\Q (.int z.length) H):=by
 intro pins s σ H xs us Q I r h;obtain⟨z,rfl,hz,q⟩:=h;obtain⟨u,rfl,t,rfl⟩:=Jo r;have hn:=YA7;exact len_str (by omega) ⟨.int z.length,H,I.tok _,⟨_,U⟩,q⟩
theorem YEN:Zr X (.type "list") (λxs H Q=>∃p ys,xs=[.ref p]/\(SqL X.K H p ys\/SqT X.K H p ys)/\∀l,H l=none->Q (.ref l) (upd H l (.lst ys))):=by
 intro pins s σ H xs us Q I r h;obtain⟨p,ys,rfl,hq,q⟩:=h;obtain⟨u,rfl,rx⟩:=Jo r;cases rx;have fin:∀(its:List Value),Yi ys its->ys.length<=sizeLine->∀(h':Heap) (c':Nat),(∀b o',s.heap.get? b=some o'->h'.get? b=some o')->
   h'.get? s.heap.objs.size=some { cls:=.type "list",dict:=none,data:=.seq its.toArray c',slots:=#[] }->EP X pins σ Q (.ref s.heap.objs.size) { s with heap:=h' }:=λits r' hz h' c' kp e=>
  ⟨.ref s.heap.objs.size,_,I.laid (t':=s.toks) kp (YJB _) (show Yy X.prog X.w _ h' _ (.lst ys) from⟨hz,its,c',r',e⟩),U,q _ (I.hok.fresh (YJB _))⟩
 rcases hq with hq |hq
 ·obtain⟨its,r',pl,hz⟩:=I.list hq;have hlen:=r'.length;obtain⟨o,ho,hc,n,hd⟩:=pl.isList;exact call_list_seq p (.inl rfl) ho hc hd (λh' c' kp e=>fin its r' hz h' c' kp e) (by simp only[YJN] <;> omega)
 ·obtain⟨its,r',pl,hz⟩:=I.tuple hq;have hlen:=r'.length;obtain⟨o,ho,hc,n,hd⟩:=pl;exact call_list_seq p (.inr rfl) ho hc hd (λh' c' kp e=>fin its r' hz h' c' kp e) (by simp only[YJN] <;> omega)
theorem YDF:Zr X (.type "tuple") (λxs H Q=>∃p ys,xs=[.ref p]/\((SqL X.K H p ys/\∀l,H l=none->Q (.ref l) (upd H l (.tup ys)))\/(SqT X.K H p ys/\Q (.ref p) H))):=by
 intro pins s σ H xs us Q I r h;obtain⟨p,ys,rfl,h⟩:=h;obtain⟨u,rfl,rx⟩:=Jo r;cases rx;rcases h with ⟨hq,q⟩ |⟨hq,q⟩
 ·obtain⟨its,r',pl,hz⟩:=I.list hq;have hlen:=r'.length;refine call_tuple_list pl.isList (λh' kp=>?_) (by simp only[YJN] <;> omega);have I1:Inv X pins σ H { s with heap:=h' }:=I.kept (t':=s.toks) kp;have I2:Inv X pins σ (upd H h'.objs.size (.tup ys)) { s with heap:=h'.push { cls:=.type "tuple",data:=.seq its.toArray } }:=
   I1.laid (t':=s.toks) (λb o e=>YI9 _ e) (YJB _) (show Yy X.prog X.w _ _ _ (.tup ys) from⟨hz,its,r',IsTup.new _ _⟩)
  exact⟨.ref h'.objs.size,_,I2,U,q _ (I1.hok.fresh (YJB _))⟩
 ·obtain⟨its,r',pl,hz⟩:=I.tuple hq;exact call_tuple_same pl ⟨.ref p,H,I,U,q⟩
def tyV (K:W.Frag) (T:String) (x:V) (H:Hp):Prop:=match x with
 |.str _=>T="str"
 |.int _=>T="int"
 |.ref p=>(T="list"/\∃xs,SqL K H p xs)\/(T="tuple"/\∃o,K.lookup p=some o/\o.cls=.type "tuple"/\o.dict=none)\/
   (T="dict"/\((∃kvs,H p=some (.dK kvs))\/∃kvs,H p=some (.dT kvs)))\/(T="set"/\∃S n,H p=some (.set S n))
 |_=>False
theorem YH9 {pins:List (Addr×Obj)}{σ:St}{H:Hp}{s:Shared}{T:String}{x:V}{v:Value} (I:Inv X pins σ H s) (r:Ym x v) (ty:tyV X.K T x H):
  s.TypeIs v T/\∀a,v=.ref a->∃ob,s.heap.get? a=some ob/\ob.dict=none:=by
 cases x with
 |str z=>
  obtain⟨t,rfl⟩:=r;cases (show T="str" from ty);exact⟨typeIs_str s z t,λ_ e=>nomatch e⟩
 |int i=>
  obtain⟨t,rfl⟩:=r;cases (show T="int" from ty);exact⟨typeIs_int s i t,λ_ e=>nomatch e⟩
 |ref p=>
  cases r;rcases ty with ⟨rfl,xs,hq⟩ |⟨rfl,o,hk,hc,hd⟩ |⟨rfl,hk⟩ |⟨rfl,S,n,hk⟩
  ·obtain⟨its,_,pl,_⟩:=I.list hq;refine⟨pl.isList.typeIs,λa e=>?_⟩;cases e;obtain⟨o,n,e,c,hd,_⟩:=pl;exact⟨o,e,hd⟩
  ·refine⟨⟨o,I.kIn p o hk,hc⟩,λa e=>?_⟩;cases e;exact⟨o,I.kIn _ o hk,hd⟩
  ·have z:∃o,s.heap.get? p=some o/\o.ExactDict:=by
    rcases hk with ⟨kvs,hk⟩ |⟨kvs,hk⟩
    ·obtain⟨_,_,_,_,o,_,_,e,ex,_⟩:=I.hok p _ hk;exact⟨o,e,ex⟩
    ·obtain⟨_,_,_,_,o,_,_,e,ex,_⟩:=I.hok p _ hk;exact⟨o,e,ex⟩
   obtain⟨o,e,ex⟩:=z;refine⟨⟨o,e,ex.1⟩,λa e2=>?_⟩;cases e2;exact⟨o,e,ex.2.1⟩
  ·obtain⟨o,_,_,_,e,ex,_⟩:=I.hok p _ hk;refine⟨⟨o,e,ex.1⟩,λa e2=>?_⟩;cases e2;exact⟨o,e,ex.2.1⟩
 |_=>exact False.elim ty
inductive tBM0_ (K:W.Frag) (T:String) (r:V->List V->Hp->VK->Prop) (Q:VK) (x:V) (H1:Hp):Prop where
 |mk (aQ:tyV K T x H1) (aR:r x [] H1 Q):tBM0_ K T r Q x H1
def tBM0 (K:W.Frag) (T:String) (r:V->List V->Hp->VK->Prop) (to:TE):TE:=λσ H Q=>to σ H λx H1=>tBM0_ K T r Q x H1
inductive tBM_ (K:W.Frag) (T:String) (r:V->List V->Hp->VK->Prop) (t:TA) (σ:St) (Q:VK) (x:V) (H1:Hp):Prop where
 |mk (aQ:tyV K T x H1) (aR:t σ H1 λxs H2=>r x xs H2 Q):tBM_ K T r t σ Q x H1
def tBM (K:W.Frag) (T:String) (r:V->List V->Hp->VK->Prop) (to:TE) (t:TA):TE:=λσ H Q=>to σ H λx H1=>tBM_ K T r t σ Q x H1
variable {o e:Expr}{es:List Expr}{to:TE}{t:TA}{name:Str}{bZ aU:Pos}{T id:String}{r:V->List V->Hp->VK->Prop}
theorem pe_bm0 (pa:PlainAttrs T) (slot:Slot T name id) (rB:typeOf (.builtin id)=pure (.type "method_descriptor")) (hm:MtR X id r) (ho:PE X o to)
  (iz:attributeBase o name X.env (eval o X.env)=eval o X.env:=by rfl) (iB:(bZ.endLine == aU.line)=true:=by rfl):PE X (.Call (.Attribute o name bZ) [] [] aU) (tBM0 X.K T r to):=by
 intro pins s σ H Q I h;refine wpAny_Call_method0_late iz iB (thn (ho pins s σ H _ I h) λv s1 ⟨x,H1,I1,r1,ty,q1⟩=>?_);obtain⟨h1,h2⟩:=YH9 I1 r1 ty;exact⟨T,id,pa,slot,rB,h1,h2,Calls.callWith_builtin rfl (PySem.evalArgs_none (hm pins s1 σ H1 x [] v [] Q I1 r1 .nil q1))⟩
theorem pe_bm (pa:PlainAttrs T) (slot:Slot T name id) (rB:typeOf (.builtin id)=pure (.type "method_descriptor")) (hm:MtR X id r) (ho:PE X o to) (ha:PA X (e :: es) t)
  (iz:attributeBase o name X.env (eval o X.env)=eval o X.env:=by rfl)
  (rC:((backTo aU (starEach (e :: es) X.env)).all (λx=>!x.1) && (backToKw aU (keywordEach [] X.env)).all (λx=>x.1.isSome)
   && decide ((e :: es).length + ([]:List Keyword).length + (if ([]:List Keyword).isEmpty then 0 else 1) < 30))=true:=by rfl)
  (iB:(bZ.endLine == aU.line)=true:=by rfl) (hs:starEach (e :: es) X.env=(false,eval e X.env) :: starEach es X.env:=by rfl) (iC:(backTo aU (starEach es X.env)).any (·.1)=false:=by rfl):
  PE X (.Call (.Attribute o name bZ) (e :: es) [] aU) (tBM X.K T r to t):=by
 intro pins s σ H Q I h;refine wpAny_Call_method_late iz rC iB rfl (thn (ho pins s σ H _ I h) λv s1 ⟨x,H1,I1,r1,ty,q1⟩=>?_);obtain⟨h1,h2⟩:=YH9 I1 r1 ty;refine⟨T,id,pa,slot,rB,h1,h2,?_⟩;have hA:=ha aU pins s1 σ H1 _ I1 q1;rw[hs]at hA ⊢;refine Calls.callWith_builtin (by show(false || (backTo aU (starEach es X.env)).any (·.1))=false;rw[iC] <;> rfl) (Calls.evalArgs_plain ?_);exact thn hA λus s2 ⟨vs,H2,I2,r2,q2⟩=>hm pins s2 σ H2 x vs v us Q I2 r1 r2 q2
end
end L2
namespace L2
open PySem PySem.Spec PyProof.Rows
def MtM (X:Cx) (id:String) (r:V->List V->Hp->VK->Prop):Prop:=
 ∀(pins:List (Addr×Obj)) (s:Shared) (σ:St) (H:Hp) (x:V) (xs:List V) (v:Value) (us:List Value) (Q:VK),Inv X pins σ H s->Ym x v->Yi xs us->r x xs H Q->
  wpAny (model X.prog X.w) X.A (call (.builtin id) (v :: us)) (EP X pins σ Q) X.xe s
theorem Yi.one:∀{x:V}{us:List Value},Yi [x] us->∃u,us=[u]/\Ym x u
 |_,_,.cons r .nil=>⟨_,U,r⟩
theorem Yi.zero:∀{us:List Value},Yi [] us->us=[]
 |_,.nil=>rfl
theorem Yi.eraseIdx:∀{xs:List V}{us:List Value} (i:Nat),Yi xs us->Yi (xs.eraseIdx i) (us.eraseIdx i)
 |_,_,_,.nil=>.nil
 |_,_,0,.cons _ t=>t
 |_,_,i + 1,.cons r t=>.cons r (Yi.eraseIdx i t)
theorem Yi.reverse {xs:List V}{us:List Value} (h:Yi xs us):Yi xs.reverse us.reverse:=by
 induction h with
 |nil=>exact .nil
 |cons r t ih=>rw[List.reverse_cons,List.reverse_cons];exact Yi.append ih (.cons r .nil)
theorem YDf {α:Type}:∀(l:List α) (i:Nat),(l.eraseIdx i).length<=l.length
 |[],_=>YJB _
 |_ :: _,0=>YKP _
 |_ :: r,i + 1=>Nat.succ_le_succ (YDf r i)
section
variable {X:Cx}{pins:List (Addr×Obj)}{σ:St}{H:Hp}{s:Shared}{l b:Addr}{xs ys zs:List V}
theorem Inv.lset {its its':List Value}{n:Nat}{f:Array Value->Array Value}{t':Nat} (I:Inv X pins σ H s) (hH:H l=some (.lst xs))
  (e:s.heap.get? l=some { cls:=.type "list",data:=.seq its.toArray n }) (hf:f its.toArray=its'.toArray) (hv:Yi ys its') (hz:ys.length<=sizeLine):
  Inv X pins σ (upd H l (.lst ys)) { s with heap:=s.heap.update l (Obj.mapSeq f),toks:=t' }:=by
 have q:=PySem.IsL.update e f;rw[hf]at q;refine I.write (x:=l) (e:=l) (by rw[hH];exact trivial) (.inl rfl) (λb' u hb hu=>(Heap.get?_update_other s.heap (Obj.mapSeq f) (Ne.symm hb)).trans hu) ⟨_,q⟩ ?_;exact⟨hz,its',_,hv,q⟩
theorem Inv.lnew {its:List Value}{t':Nat} (I:Inv X pins σ H s) (hv:Yi ys its) (hz:ys.length<=sizeLine):
  Inv X pins σ (upd H s.heap.objs.size (.lst ys)) { s with heap:=s.heap.push { cls:=.type "list",data:=.seq its.toArray },toks:=t' }:=
 I.laid (λ_ _ q=>YI9 _ q) (YJB _) ⟨hz,its,0,hv,YJS _ rfl⟩
theorem Inv.fresh (I:Inv X pins σ H s):H s.heap.objs.size=none:=I.hok.fresh (YJB _)
theorem Inv.lstM (I:Inv X pins σ H s) (hH:H l=some (.lst xs)):xs.length<=sizeLine/\∃(its:List Value) (n:Nat),Yi xs its/\xs.length=its.length/\s.heap.get? l=some { cls:=.type "list",data:=.seq its.toArray n }:=by
 obtain⟨z,its,n,r,e⟩:=I.hok l _ hH;exact⟨z,its,n,r,r.length,e⟩
end
section
variable {X:Cx}
inductive YEy (x:V) (vs:List V) (H:Hp) (Q:VK):Prop where
 |mk (l:_) (xs:_) (y:_) (aQ:x=.ref l) (aR:vs=[y]) (bu:H l=some (.lst xs)) (cM:xs.length < sizeLine) (dR:Q .non (upd H l (.lst (xs ++ [y])))):YEy x vs H Q
def rAppend:V->List V->Hp->VK->Prop:=λx vs H Q=>YEy x vs H Q
theorem Z4:MtM X "list.append" rAppend:=by
 intro pins s σ H x vs v us Q I rx rv h;obtain⟨l,xs,y,rfl,rfl,hH,hz,q⟩:=h;cases rx;obtain⟨u,rfl,ru⟩:=rv.one;obtain⟨z,its,n,r,hl,e⟩:=I.lstM hH;refine call_meets F.slot_list_append ⟨_,e,U⟩ F.entry_list_append (F.args_list_append_2 _ _) (PySem.list_append l its.toArray n u (by rw[YJN];omega)) ⟨e,?_⟩;refine⟨.non,_,I.lset (its':=its ++ [u]) hH e (by simp) (r.append (.cons ru .nil)) ?_,U,q⟩;rw[YJL,List.length_singleton];omega
def rPopAt:V->List V->Hp->VK->Prop:=λx vs H Q=>∃l xs i k y,x=.ref l/\vs=[.int i]/\H l=some (.lst xs)/\-(2 ^ 63)<=i/\i < 2 ^ 63/\seqIndex? i xs.length=some k/\xs[k]?=some y/\Q y (upd H l (.lst (xs.eraseIdx k)))
theorem YEz:MtM X "list.pop" rPopAt:=by
 intro pins s σ H x vs v us Q I rx rv h;obtain⟨l,xs,i,k,y,rfl,rfl,hH,h1,h2,hk,hy,q⟩:=h;cases rx;obtain⟨u,rfl,ru⟩:=rv.one;obtain⟨t,rfl⟩:=ru;obtain⟨z,its,n,r,hl,e⟩:=I.lstM hH;obtain⟨w,hw,k_⟩:=r.get hy;refine call_meets F.slot_list_pop ⟨_,e,U⟩ F.entry_list_pop (F.args_list_pop_2 _ _)
  (MeetsSeq.list_pop_at l its.toArray n i t k w (fitsIndex_both h1 h2) (by rw[YJN,<-hl];exact hk) (by rw[<-YJ1];exact hw) (by rw[YJN];omega)) ⟨e,?_⟩
 refine⟨y,_,I.lset (its':=its.eraseIdx k) hH e ?_ (r.eraseIdx k) ?_,k_,q⟩
 ·show its.toArray.eraseIdxIfInBounds k=(its.eraseIdx k).toArray;rw[List.eraseIdxIfInBounds_toArray]
 ·have:=YDf xs k;omega
inductive YDg (x:V) (vs:List V) (H:Hp) (Q:VK):Prop where
 |mk (l:_) (xs:_) (aQ:x=.ref l) (aR:vs=[]) (bu:H l=some (.lst xs)) (cM:Q .non (upd H l (.lst xs.reverse))):YDg x vs H Q
def YIA:V->List V->Hp->VK->Prop:=λx vs H Q=>YDg x vs H Q
theorem YCP:MtM X "list.reverse" YIA:=by
 intro pins s σ H x vs v us Q I rx rv h;obtain⟨l,xs,rfl,rfl,hH,q⟩:=h;cases rx;have hus:=rv.zero;subst hus;obtain⟨z,its,n,r,hl,e⟩:=I.lstM hH;refine call_meets F.slot_list_reverse ⟨_,e,U⟩ F.entry_list_reverse (F.args_list_reverse_1 _) (AutoSeq1.list_reverse_list_0 l its.toArray n (by rw[YJN];omega)) ⟨e,?_⟩;refine⟨.non,_,I.lset (its':=its.reverse) hH e (by simp) r.reverse ?_,U,q⟩;rw[List.length_reverse];omega
inductive rCat_ (x:V) (y:V) (H:Hp) (Q:VK):Prop where
 |mk (l:_) (b:_) (xs:_) (zs:_) (aQ:x=.ref l) (aR:y=.ref b) (bu:H l=some (.lst xs)) (cM:H b=some (.lst zs)) (dR:xs.length + zs.length<=sizeLine) (lO:∀p,H p=none->Q (.ref p) (upd H p (.lst (xs ++ zs)))):rCat_ x y H Q
def rCat:R2:=λx y H Q=>rCat_ x y H Q
theorem YEO:OpR X (binaryOp .Add) rCat:=by
 intro pins s σ H x y v u Q I rx ry h;obtain⟨l,b,xs,zs,rfl,rfl,hH,hB,hz,q⟩:=h;cases rx;cases ry;obtain⟨z,its,n,r,hl,e⟩:=I.lstM hH;obtain⟨z2,eG,n2,r2,hl2,e2⟩:=I.lstM hB;refine PySem.P.add_list e e2 ?_ (by rw[YJN,YJN];omega);have ea:its.toArray ++ eG.toArray=(its ++ eG).toArray:=by simp
 rw[ea];exact⟨.ref _,_,I.lnew (t':=s.toks) (r.append r2) (by rw[YJL];omega),U,q _ I.fresh⟩
end
section
variable {prog:Program}{w:World}{A:Around}{E:Value->Shared->Prop}{s:Shared}
set_option maxRecDepth 100000 in
end
section
variable {X:Cx}
end
end L2
namespace L2
open PySem PySem.Spec PyProof.Rows
section
variable {κ:Type} [DecidableEq κ]
def Jn (kvs:List (κ×V)) (k:κ):Option V:=(kvs.find? λkv=>decide (kv.1=k)).map (·.2)
def Zg (kvs:List (κ×V)) (k:κ) (v:V):List (κ×V):=
 if (kvs.any λkv=>decide (kv.1=k))=true then kvs.map (λkv=>if kv.1=k then (kv.1,v) else kv) else kvs ++ [(k,v)]
theorem J5 {p:κ×V}{r:List (κ×V)}{k:κ} (e:p.1=k):Jn (p :: r) k=some p.2:=by simp[Jn,YKF,e]
theorem Xk {p:κ×V}{r:List (κ×V)}{k:κ} (e:¬p.1=k):Jn (p :: r) k=Jn r k:=by simp[Jn,YKF,e]
theorem YCQ (k:κ):∀kvs:List (κ×V),(kvs.any λkv=>decide (kv.1=k))=(Jn kvs k).isSome
 |[]=>rfl
 |p :: r=>by
  rw[List.any_cons]
  by_cases e:p.1=k
  ·simp only[J5 e,YI7 e,Bool.true_or,Option.isSome_some]
  ·rw[Xk e,YI8 e,Bool.false_or];exact YCQ k r
theorem Xl (kvs:List (κ×V)) (k:κ) (v:V):(Zg kvs k v).length<=kvs.length + 1:=by
 unfold Zg;split
 ·rw[YI6];omega
 ·rw[YJL,YJY,List.length_nil];omega
theorem XG.isSome_eq {o:Option V}{u:Option Value} (r:XG o u):o.isSome=u.isSome:=by
 cases o with
 |none=>cases u with
  |none=>rfl
  |some _=>exact(show False from r).elim
 |some _=>cases u with
  |none=>exact(show False from r).elim
  |some _=>rfl
theorem XG.getD {o:Option V}{u:Option Value}{d:V}{d':Value} (r:XG o u) (rd:Ym d d'):Ym (o.getD d) (u.getD d'):=by
 cases o with
 |none=>cases u with
  |none=>exact rd
  |some _=>exact(show False from r).elim
 |some _=>cases u with
  |none=>exact(show False from r).elim
  |some _=>exact r
theorem KV.val {kvs:List (κ×V)}{vs:List (κ×Value)} (r:KV kvs vs) (k:κ):XG (Jn kvs k) (valueAt vs k):=by
 unfold KV at r
 induction r with
 |nil=>exact True.intro
 |@cons p q ps qs h t ih=>
  obtain⟨h1,h2⟩:=h
  by_cases e:p.1=k
  ·have e':q.1=k:=h1.symm.trans e;have b:valueAt (q :: qs) k=some q.2:=by simp[valueAt,YKF,e']
   rw[J5 e,b];exact h2
  ·have e':¬q.1=k:=λz=>e (h1.trans z)
   have b:valueAt (q :: qs) k=valueAt qs k:=by simp[valueAt,YKF,e']
   rw[Xk e,b];exact ih
theorem KV.any {kvs:List (κ×V)}{vs:List (κ×Value)} (r:KV kvs vs) (k:κ):(kvs.any λkv=>decide (kv.1=k))=vs.any λkv=>decide (kv.1=k):=by
 unfold KV at r
 induction r with
 |nil=>rfl
 |cons h t ih=>rw[List.any_cons,List.any_cons,ih,h.1]
theorem KV.repl {kvs:List (κ×V)}{vs:List (κ×Value)} (r:KV kvs vs) (k:κ) {y:V}{u:Value} (ry:Ym y u):
  KV (kvs.map λkv=>if kv.1=k then (kv.1,y) else kv) (vs.map λkv=>if kv.1=k then (kv.1,u) else kv):=by
 unfold KV at r ⊢
 induction r with
 |nil=>exact .nil
 |@cons p q ps qs h t ih=>
  rw[YJO,YJO];refine .cons ?_ ih;obtain⟨h1,h2⟩:=h
  by_cases e:p.1=k
  ·rw[if_pos e,if_pos (h1.symm.trans e)];exact⟨h1,ry⟩
  ·rw[if_neg e,if_neg (λz=>e (h1.trans z))];exact⟨h1,h2⟩
theorem KV.put {kvs:List (κ×V)}{vs:List (κ×Value)} (r:KV kvs vs) (k:κ) {y:V}{u:Value} (ry:Ym y u):KV (Zg kvs k y) (stored vs k u):=by
 unfold Zg stored;rw[r.any k]
 by_cases e:(vs.any λkv=>decide (kv.1=k))=true
 ·rw[if_pos e,if_pos e];exact r.repl k ry
 ·rw[if_neg e,if_neg e];exact Paired.snoc r ⟨U,ry⟩
theorem KV.keys {kvs:List (κ×V)}{vs:List (κ×Value)} (r:KV kvs vs):kvs.map (·.1)=vs.map (·.1):=by
 unfold KV at r
 induction r with
 |nil=>rfl
 |cons h t ih=>rw[YJO,YJO,ih,h.1]
theorem KV.length {kvs:List (κ×V)}{vs:List (κ×Value)} (r:KV kvs vs):kvs.length=vs.length:=Paired.length r
end
theorem YAg {P:Program}{w:World}{k:Key}{u:Value} (r:Ym (kV k) u):(Y0 P w).is k u=true:=by
 cases k with
 |inl i=>obtain⟨t,e⟩:=(show ∃t,u=Value.int i t from r);subst e;exact YEr P w i t
 |inr x=>obtain⟨t,e⟩:=(show ∃t,u=Value.str x t from r);subst e;exact YEs P w x t
theorem YDh {P:Program}{w:World}:∀{ks:List Key}{us:List Value},Yi (ks.map kV) us->ItemsAre (Y0 P w) ks us
 |[],_,r=>by rw[List.map_nil]at r;cases r;exact .nil
 |k :: ks,_,r=>by
  rw[YJO]at r;cases r with
  |cons h t=>exact .cons (YAg h) (YDh t)
abbrev KT (H:Hp):List (List Key×V)->List (List Key×Addr×Value)->Prop:=Paired λp q=>p.1=q.1/\H q.2.1=some (.tup (p.1.map kV))/\Ym p.2 q.2.2
theorem KT.val {H:Hp}{kvs:List (List Key×V)}{xs:List (List Key×Addr×Value)} (r:KT H kvs xs) (k:List Key):XG (Jn kvs k) ((atKey xs k).map (·.2)):=by
 induction r with
 |nil=>exact True.intro
 |@cons p q ps qs h t ih=>
  obtain⟨h1,_,h2⟩:=h
  by_cases e:p.1=k
  ·have e':q.1=k:=h1.symm.trans e;have b:atKey (q :: qs) k=some q.2:=by simp[atKey,YKF,e']
   rw[J5 e,b];exact h2
  ·have e':¬q.1=k:=λz=>e (h1.trans z)
   have b:atKey (q :: qs) k=atKey qs k:=by simp[atKey,YKF,e']
   rw[Xk e,b];exact ih
theorem KT.repl {H:Hp}{kvs:List (List Key×V)}{xs:List (List Key×Addr×Value)} (r:KT H kvs xs) (k:List Key) {y:V}{u:Value} (ry:Ym y u):
  KT H (kvs.map λkv=>if kv.1=k then (kv.1,y) else kv) (xs.map (putAt k u)):=by
 induction r with
 |nil=>exact .nil
 |@cons p q ps qs h t ih=>
  rw[YJO,YJO];refine .cons ?_ ih;obtain⟨h1,h2,h3⟩:=h;unfold putAt
  by_cases e:p.1=k
  ·rw[if_pos e,if_pos (h1.symm.trans e)];exact⟨h1,h2,ry⟩
  ·rw[if_neg e,if_neg (λz=>e (h1.trans z))];exact⟨h1,h2,h3⟩
theorem KT.put {H:Hp}{kvs:List (List Key×V)}{xs:List (List Key×Addr×Value)} (r:KT H kvs xs) (k:List Key) {b:Addr}{y:V}{u:Value} (hb:H b=some (.tup (k.map kV))) (ry:Ym y u):
  KT H (Zg kvs k y) (storedH xs k b u):=by
 have e:(kvs.any λkv=>decide (kv.1=k))=(atKey xs k).isSome:=by
  rw[YCQ,(r.val k).isSome_eq,YKC]
 unfold Zg storedH;rw[e]
 by_cases q:(atKey xs k).isSome=true
 ·rw[if_pos q,if_pos q];exact r.repl k ry
 ·rw[if_neg q,if_neg q];exact Paired.snoc r ⟨U,hb,ry⟩
theorem KT.keeps {H H':Hp}{kvs:List (List Key×V)}{xs:List (List Key×Addr×Value)} (r:KT H kvs xs) (ht:∀b ys,H b=some (.tup ys)->H' b=some (.tup ys)):KT H' kvs xs:=
 Paired.mapP r λ_ _ z=>⟨z.1,ht _ _ z.2.1,z.2.2⟩
section
variable {P:Program}{w:World}{H:Hp}{h:Heap}{a:Addr}
theorem rd_of {u:HO} (ok:HOk P w H h) (e:Rd H a u):Yy P w H h a u:=e.ok ok
theorem YAh {kvs:List (Key×V)} (ok:HOk P w H h) (e:Rd H a (.dK kvs)):kvs.length<=sizeLine/\(a == sysModules)=false/\∃vs,KV kvs vs/\h.DictOf (Y0 P w) a vs:=
 show Yy P w H h a (.dK kvs) from rd_of ok e
theorem dk_of {kvs:List (Key×V)} (ok:HOk P w H h) (e:H a=some (.dK kvs)):kvs.length<=sizeLine/\(a == sysModules)=false/\∃vs,KV kvs vs/\h.DictOf (Y0 P w) a vs:=YAh ok (.inl e)
theorem YBB {ks:List Key} (ok:HOk P w H h) (e:H a=some (.tup (ks.map kV))):(tupleKind (Y0 P w)).is h ks a:=by
 obtain⟨_,its,r,o,h1,h2,n,h3⟩:=(show Yy P w H h a (.tup (ks.map kV)) from ok a _ e);exact⟨o,its.toArray,n,h1,h2,h3,by simpa using YDh r⟩
theorem YCR {kvs:List (List Key×V)} (ok:HOk P w H h) (e:Rd H a (.dT kvs)):kvs.length<=sizeLine/\(a == sysModules)=false/\
  ∃xs,KT H kvs xs/\h.DictOfH (tupleKind (Y0 P w)) a xs:=by
 obtain⟨z,y,xs,r,o,es,ep,h1,h2,h3,h4,h5⟩:=(show Yy P w H h a (.dT kvs) from rd_of ok e);refine⟨z,y,xs,r,o,es,ep,h1,h2,h3,h4,λx hx=>?_,h5⟩;have all:∀{l:List (List Key×V)}{m:List (List Key×Addr×Value)},KT H l m->∀x∈m,(tupleKind (Y0 P w)).is h x.1 x.2.1:=by
  intro l m q
  induction q with
  |nil=>intro x hx;exact nomatch hx
  |@cons p q ps qs hq t ih=>
   intro x hx;rcases YJK.mp hx with e |hx
   ·subst e;exact YBB ok (by rw[<-hq.1];exact hq.2.1)
   ·exact ih x hx
 exact all r x hx
theorem dt_of {kvs:List (List Key×V)} (ok:HOk P w H h) (e:H a=some (.dT kvs)):kvs.length<=sizeLine/\(a == sysModules)=false/\
  ∃xs,KT H kvs xs/\h.DictOfH (tupleKind (Y0 P w)) a xs:=YCR ok (.inl e)
end
def JX (H:Hp) (a:Addr) (y:V) (r:Option V):Prop:=
 (∃kvs k,Rd H a (.dK kvs)/\y=kV k/\r=Jn kvs k)\/∃kvs k b,Rd H a (.dT kvs)/\y=.ref b/\H b=some (.tup (k.map kV))/\r=Jn kvs k
def YAU (H:Hp) (a:Addr) (y v:V) (H':Hp):Prop:=
 (∃kvs k,H a=some (.dK kvs)/\y=kV k/\kvs.length < sizeLine/\H'=upd H a (.dK (Zg kvs k v)))\/
 ∃kvs k b,H a=some (.dT kvs)/\y=.ref b/\H b=some (.tup (k.map kV))/\kvs.length < sizeLine/\H'=upd H a (.dT (Zg kvs k v))
theorem JX.k {H:Hp}{a:Addr}{kvs:List (Key×V)}{k:Key} (e:H a=some (.dK kvs)):JX H a (kV k) (Jn kvs k):=.inl ⟨kvs,k,.inl e,U,U⟩
theorem YAU.k {H:Hp}{a:Addr}{kvs:List (Key×V)}{k:Key}{v:V} (e:H a=some (.dK kvs)) (hl:kvs.length < sizeLine):YAU H a (kV k) v (upd H a (.dK (Zg kvs k v))):=.inl ⟨kvs,k,e,U,hl,U⟩
section
variable {X:Cx}{pins:List (Addr×Obj)}{σ:St}{H:Hp}{s:Shared}{a:Addr}{y v:V}{u r:Value}{o:Option V}{A:Around}{E:Value->Shared->Prop}
theorem Inv.big (I:Inv X pins σ H s):sysModules < s.heap.objs.size:=by
 have h:mainGlobals < s.heap.objs.size:=(I.mod.glob.keeps I.bk).lt;exact Nat.lt_trans (by decide) h
theorem YHL {Q:Value->Shared->Prop} (hu:A.units + 1 < cLine) (I:Inv X pins σ H s) (g:JX H a y (some v)) (ry:Ym y u) (h:∀w' s',Inv X pins σ H s'->Ym v w'->Q w' s'):
  wpAny (model X.prog X.w) A (getItem (.ref a) u) Q E s:=by
 rcases g with ⟨kvs,k,e,ey,l⟩ |⟨kvs,k,b,e,ey,eb,l⟩
 ·subst ey;obtain⟨z,hd,vs,rel,dd⟩:=YAh I.hok e;obtain⟨w',hw,k_⟩:=XG.some_of (v:=v) (o:=valueAt vs k) (by rw[l];exact rel.val k);exact wpAny_getItem_of (YAg ry) dd.mapOf hw (h w' _ (I.tok _) k_)
 ·subst ey;cases (show u=Value.ref b from ry);obtain⟨z,hd,xs,rel,dd⟩:=YCR I.hok e;obtain⟨w',hw,k_⟩:=XG.some_of (v:=v) (o:=(atKey xs k).map (·.2)) (by rw[l];exact rel.val k);obtain⟨p,hp,qQ⟩:=YJv.mp hw;refine wpAny_getItem_heap (tupleKind_room_in1 hu) (YBB I.hok eb) dd hp ?_;rw[qQ];exact h w' _ (I.tok _) k_
theorem d_in {Q:Value->Shared->Prop} (hu:A.units + 1 < cLine) (I:Inv X pins σ H s) (g:JX H a y o) (ry:Ym y u) (h:∀s',Inv X pins σ H s'->Q (.bool o.isSome) s'):
  wpAny (model X.prog X.w) A (compareOp .In u (.ref a)) Q E s:=by
 rcases g with ⟨kvs,k,e,ey,l⟩ |⟨kvs,k,b,e,ey,eb,l⟩
 ·subst ey;obtain⟨z,hd,vs,rel,dd⟩:=YAh I.hok e;refine wpAny_in_of (YAg ry) hd dd.mapOf ?_;rw[<-(rel.val k).isSome_eq,<-l];exact h _ (I.tok _)
 ·subst ey;cases (show u=Value.ref b from ry);obtain⟨z,hd,xs,rel,dd⟩:=YCR I.hok e;refine wpAny_in_heap (tupleKind_room_in1 hu) (YBB I.hok eb) hd dd ?_;have q:=(rel.val k).isSome_eq;rw[YKC]at q;rw[<-q,<-l];exact h _ (I.tok _)
theorem d_notIn {Q:Value->Shared->Prop} (hu:A.units + 1 < cLine) (I:Inv X pins σ H s) (g:JX H a y o) (ry:Ym y u) (h:∀s',Inv X pins σ H s'->Q (.bool (!o.isSome)) s'):
  wpAny (model X.prog X.w) A (compareOp .NotIn u (.ref a)) Q E s:=by
 rcases g with ⟨kvs,k,e,ey,l⟩ |⟨kvs,k,b,e,ey,eb,l⟩
 ·subst ey;obtain⟨z,hd,vs,rel,dd⟩:=YAh I.hok e;refine wpAny_notIn_of (YAg ry) hd dd.mapOf ?_;rw[<-(rel.val k).isSome_eq,<-l];exact h _ (I.tok _)
 ·subst ey;cases (show u=Value.ref b from ry);obtain⟨z,hd,xs,rel,dd⟩:=YCR I.hok e;refine wpAny_notIn_heap (tupleKind_room_in1 hu) (YBB I.hok eb) hd dd ?_;have q:=(rel.val k).isSome_eq;rw[YKC]at q;rw[<-q,<-l];exact h _ (I.tok _)
theorem YEP {h':Heap}{t':Nat}{ob:HO} (I:Inv X pins σ H s) (mu:Mut (H a)) (hs:Heap.SameBut a s.heap h') (he:∃q,h'.get? a=some q) (new:Yy X.prog X.w (upd H a ob) h' a ob):
  Inv X pins σ (upd H a ob) { s with heap:=h',toks:=t' }:=
 I.write (x:=a) (e:=a) mu (.inl rfl) (λb q hb z=>(hs.2 b hb).trans z) he new
theorem YIB {P:Program}{w:World}{H':Hp}{h':Heap}{kvs:List (Key×V)}{vs:List (Key×Value)} (z:kvs.length<=sizeLine) (hd:(a == sysModules)=false) (rel:KV kvs vs) (dd:h'.DictOf (Y0 P w) a vs):
  Yy P w H' h' a (.dK kvs):=⟨z,hd,vs,rel,dd⟩
theorem YHM {H':Hp}{Q:Unit->Shared->Prop} (hu:A.units + 1 < cLine) (I:Inv X pins σ H s) (g:YAU H a y v H') (ry:Ym y u) (rv:Ym v r) (h:∀s',Inv X pins σ H' s'->Q () s'):
  wpAny (model X.prog X.w) A (setItem (.ref a) u r) Q E s:=by
 rcases g with ⟨kvs,k,e,ey,l,eH⟩ |⟨kvs,k,b,e,ey,eb,l,eH⟩
 ·subst ey eH;obtain⟨z,hd,vs,rel,dd⟩:=dk_of I.hok e;have hz:vs.length<=sizeLine:=by rw[<-rel.length];exact z
  have hl:(Zg kvs k v).length<=sizeLine:=by have:=Xl kvs k v;omega
  refine wpAny_setItem_pairs (hsz:=hz) (YAg ry) dd λh' rD hs=>h _ ?_
  have he:∃q,h'.get? a=some q:=let ⟨q,_,_,hq,_⟩:=rD;⟨q,hq⟩
  exact YEP I (by rw[e];exact True.intro) hs he (YIB hl hd (rel.put k rv) rD)
 ·subst ey eH;cases (show u=Value.ref b from ry);obtain⟨z,hd,xs,rel,dd⟩:=dt_of I.hok e;have hz:xs.length<=sizeLine:=by rw[<-Paired.length rel];exact z
  have hl:(Zg kvs k v).length<=sizeLine:=by have:=Xl kvs k v;omega
  refine wpAny_setItem_heap (hsz:=hz) (tupleKind_room_in1 hu) (YBB I.hok eb) dd λh' rD hs=>h _ ?_
  obtain⟨q,es,ep,hq,h2,h3,h4,_,h5⟩:=rD;refine YEP I (by rw[e];exact True.intro) hs ⟨q,hq⟩ ⟨hl,hd,_,(rel.put k eb rv).keeps λc ys ec=>?_,q,es,ep,hq,h2,h3,h4,h5⟩;rw[YN (ne_of ec e nofun)];exact ec
end
section
variable {X:Cx}{pins:List (Addr×Obj)}{σ:St}{H:Hp}{s:Shared}{a:Addr}{kvs:List (Key×V)}{k:Key}{u:Value}{A:Around}{E:Value->Shared->Prop}
theorem d_len {Q:Value->Shared->Prop} (I:Inv X pins σ H s) (e:Rd H a (.dK kvs)) (h:∀t s',Inv X pins σ H s'->Q (.int kvs.length t) s'):wpAny (model X.prog X.w) A (call (.builtin "len") [.ref a]) Q E s:=by
 obtain⟨z,hd,vs,rel,dd⟩:=YAh I.hok e;refine call_len_dict hd dd (by rw[<-rel.length];rw[sizeLine_eq]at z;omega) ?_;rw[<-rel.length];exact h _ _ (I.tok _)
end
def NoSl (i:Expr):Prop:=∀ov iv,subscripted i false ov iv=operate [ov,iv] (getItem ov iv)
theorem YGY {prog:Program}{w:World}{A:Around}{E:Value->Shared->Prop}{s:Shared}{env:Env}{value slice:Expr}{pos:Pos}{T id:String}{Q:Value->Shared->Prop}
  (hl:typeLookup (.type T) "__getitem__"=pure (some (.builtin id))) (hs:NoSl slice)
  (h:wpAny (model prog w) A (eval value env) (λo s₁=>wpAny (model prog w) A (eval slice env) (λi s₂=>s₂.TypeIs o T/\wpAny (model prog w) A (getItem o i) Q E s₂) E s₁) E s):
  wpAny (model prog w) A (eval (.Subscript value slice pos) env) Q E s:=by
 refine Subscript_ (wpAny_mono h (λo s₁ h₁=>wpAny_mono h₁ (λi s₂ h₂=>?_) λ_ _ x=>x) λ_ _ x=>x);obtain⟨hT,h₂⟩:=h₂;unfold subscriptTail;refine YJU ?_;rw[getitemInPython_of_ne hT.not_modules];refine YJU (wpAny_specialOf hT hl ?_);have fin:wpAny (model prog w) A (subscripted slice false o i) (λr s₃=>wpAny (model prog w) A (letTemporaryGo value o r >>= λ_=>pure r) Q E s₃) E s₂:=by
  rw[hs o i];exact wpAny_operating (wpAny_mono h₂ (λr s₃ h₃=>YJU (wpAny_letTemporaryGo (YJm h₃))) λ_ _ x=>x)
 first
  |exact YJm (YJU fin)
  |exact YJU (YJm (YJU fin))
  |exact YJU fin
theorem YE0 {X:Cx}{pins:List (Addr×Obj)}{σ:St}{H:Hp}{s:Shared}{a:Addr}{y:V}{o:Option V} (I:Inv X pins σ H s) (g:JX H a y o):s.TypeIs (.ref a) "dict":=by
 rcases g with ⟨kvs,k,e,_,_⟩ |⟨kvs,k,b,e,_,_,_⟩
 ·obtain⟨_,_,vs,_,dd⟩:=YAh I.hok e;exact dd.typeIs
 ·obtain⟨_,_,xs,_,dd⟩:=YCR I.hok e;exact dd.typeIs
inductive YIC (Q:VK) (x:V) (y:V) (H2:Hp):Prop where
 |mk (a:_) (v:_) (aQ:x=.ref a) (aR:JX H2 a y (some v)) (bu:Q v H2):YIC Q x y H2
def tDGet (td ty:TE):TE:=λσ H Q=>td σ H λx H1=>ty σ H1 λy H2=>YIC Q x y H2
inductive tDIn_ (Q:VK) (y:V) (x:V) (H2:Hp):Prop where
 |mk (a:_) (o:_) (aQ:x=.ref a) (aR:JX H2 a y o) (bu:Q (.bl o.isSome) H2):tDIn_ Q y x H2
def tDIn (ty td:TE):TE:=λσ H Q=>ty σ H λy H1=>td σ H1 λx H2=>tDIn_ Q y x H2
inductive YE1 (Q:VK) (y:V) (x:V) (H2:Hp):Prop where
 |mk (a:_) (o:_) (aQ:x=.ref a) (aR:JX H2 a y o) (bu:Q (.bl (!o.isSome)) H2):YE1 Q y x H2
def tDNotIn (ty td:TE):TE:=λσ H Q=>ty σ H λy H1=>td σ H1 λx H2=>YE1 Q y x H2
inductive YID (D:YAP) (σ:St) (v:V) (x:V) (y:V) (H3:Hp):Prop where
 |mk (a:_) (H4:_) (aQ:x=.ref a) (aR:YAU H3 a y v H4) (bu:D.nx σ H4):YID D σ v x y H3
def sDPut (td ty tv:TE):TS:=λD σ H=>tv σ H λv H1=>td σ H1 λx H2=>ty σ H2 λy H3=>YID D σ v x y H3
section
variable {X:Cx}{o i e value:Expr}{pos dI mL:Pos}{td ty tv:TE}
theorem YAi (hu:X.A.units + 1 < cLine) (ho:PE X o td) (hi:PE X i ty) (hs:NoSl i):PE X (.Subscript o i pos) (tDGet td ty):=by
 intro pins s σ H Q I h;refine YGY PySem.F.slot_dict_getitem.lookup hs (thn (ho pins s σ H _ I h) λu s1 ⟨x,H1,I1,rx,q1⟩=>thn (hi pins s1 σ H1 _ I1 q1) ?_);rintro iv s2 ⟨y,H2,I2,ry,a,v,ex,g,q2⟩;subst ex;obtain rfl:u=Value.ref a:=rx;exact⟨YE0 I2 g,YHL hu I2 g ry λw' s3 I3 k_=>⟨v,H2,I3,k_,q2⟩⟩
theorem YCS (hu:X.A.units + 1 < cLine) (hi:PE X i ty) (ho:PE X o td):PC X .In i o (tDIn ty td):=by
 intro pins s σ H Q I h;refine thn (hi pins s σ H _ I h) λiv s1 ⟨y,H1,I1,ry,q1⟩=>thn (ho pins s1 σ H1 _ I1 q1) ?_
 rintro u s2 ⟨x,H2,I2,rx,a,ov,ex,g,q2⟩;subst ex;obtain rfl:u=Value.ref a:=rx;exact d_in hu I2 g ry λs3 I3=>⟨.bl ov.isSome,H2,I3,U,q2⟩
theorem YBC (hu:X.A.units + 1 < cLine) (hi:PE X i ty) (ho:PE X o td):PC X .NotIn i o (tDNotIn ty td):=by
 intro pins s σ H Q I h;refine thn (hi pins s σ H _ I h) λiv s1 ⟨y,H1,I1,ry,q1⟩=>thn (ho pins s1 σ H1 _ I1 q1) ?_
 rintro u s2 ⟨x,H2,I2,rx,a,ov,ex,g,q2⟩;subst ex;obtain rfl:u=Value.ref a:=rx;exact d_notIn hu I2 g ry λs3 I3=>⟨.bl (!ov.isSome),H2,I3,U,q2⟩
theorem XH (hu:X.A.units + 1 < cLine) (ho:PE X o td) (hi:PE X i ty) (hv:PE X value tv) (hs:swapsWith value (some (.Subscript o i dI)) pos.line X.env=pure false):
  PS X (.Assign [.Subscript o i dI] value pos) (sDPut td ty tv):=by
 intro pins s σ H D I h;refine wpAny_Assign_Subscript (thn (hv pins s σ H _ I h) λr s1 ⟨v,H1,I1,rv,q1⟩=>thn (ho pins s1 σ H1 _ I1 q1) λu s2 ⟨x,H2,I2,rx,q2⟩=>thn (hi pins s2 σ H2 _ I2 q2) λiv s3 ⟨y,H3,I3,ry,a,H4,ex,g,q3⟩=>?_) hs;subst ex;obtain rfl:u=Value.ref a:=rx;exact YHM hu I3 g ry rv λs4 I4=>⟨σ,H4,I4,q3⟩
end
theorem YE2 {P:Program}{w:World}{H:Hp} (h:Heap) (hb:sysModules < h.objs.size):Yy P w H (h.push { cls:=.type "dict",data:=.dict #[] }) h.objs.size (.dK []):=
 ⟨YJh _,beq_eq_false_iff_ne.mpr (Ne.symm (YJc hb)),[],.nil,Heap.DictOf.new h⟩
def tDNewK:TE:=λ_ H Q=>∀p,H p=none->Q (.ref p) (upd H p (.dK []))
section
variable {X:Cx}{pos:Pos}
theorem Xm:PE X (.Dict [] [] pos) tDNewK:=λpins s σ H Q I h=>
 wpAny_Dict_empty ⟨.ref s.heap.objs.size,_,I.laid (a:=s.heap.objs.size) (o:=.dK []) (t':=s.toks) (λ_ _ q=>YI9 _ q) (YJB _) (YE2 s.heap I.big),U,h _ (I.hok.fresh (YJB _))⟩
end
def YF1:List (TE×TE)->St->Hp->(List (V×V)->Hp->Prop)->Prop
 |[],_,H,Q=>Q [] H
 |(tk,tv) :: r,σ,H,Q=>tk σ H λx H1=>tv σ H1 λy H2=>YF1 r σ H2 λps H3=>Q ((x,y) :: ps) H3
abbrev VV:List (V×V)->List (Value×Value)->Prop:=Paired λp q=>Ym p.1 q.1/\Ym p.2 q.2
def PPs (X:Cx) (pos:Pos) (keys:List (Option Expr)) (values:List Expr) (trs:List (TE×TE)):Prop:=
 ∀(pins:List (Addr×Obj)) (s:Shared) (σ:St) (H:Hp) (Q:List (V×V)->Hp->Prop),Inv X pins σ H s->YF1 trs σ H Q->
  wpAny (model X.prog X.w) X.A (evalPairs (pairTrees keys values X.env pos)) (λvs s'=>∃ps H',Inv X pins σ H' s'/\VV ps vs/\Q ps H') X.xe s
theorem YGZ {X:Cx}{pos:Pos}:PPs X pos [] [] []:=λpins s σ H Q I h=>pairTrees_nil_walk ⟨[],H,I,.nil,h⟩
theorem YE3 {X:Cx}{pos:Pos}{k v:Expr}{ks:List (Option Expr)}{vs:List Expr}{tk tv:TE}{trs:List (TE×TE)} (hk:PE X k tk) (hv:PE X v tv) (hr:PPs X pos ks vs trs):
  PPs X pos (some k :: ks) (v :: vs) ((tk,tv) :: trs):=λpins s σ H Q I h=>
 pairTrees_cons_walk (thn (hk pins s σ H _ I h) λu s1 ⟨x,H1,I1,rx,q1⟩=>thn (hv pins s1 σ H1 _ I1 q1) λw2 s2 ⟨y,H2,I2,ry,q2⟩=>
  thn (hr pins s2 σ H2 _ I2 q2) λws s3 ⟨ps,H3,I3,rel,q3⟩=>⟨(x,y) :: ps,H3,I3,.cons ⟨rx,ry⟩ rel,q3⟩)
def ZY (kvs more:List (Key×V)):List (Key×V):=more.foldl (λacc kv=>Zg acc kv.1 kv.2) kvs
theorem KV.merge:∀{more:List (Key×V)}{rs:List (Key×Value)}{kvs:List (Key×V)}{vs:List (Key×Value)},KV more rs->KV kvs vs->KV (ZY kvs more) (merged vs rs):=by
 intro more rs kvs vs r;unfold KV at r
 induction r generalizing kvs vs with
 |nil=>intro q;exact q
 |@cons p q ps qs h t ih=>
  intro r0;have e:KV (Zg kvs p.1 p.2) (stored vs q.1 q.2):=by
   have:=r0.put p.1 h.2;rw[<-h.1];exact this
  exact ih e
theorem YAJ:∀(more kvs:List (Key×V)),(ZY kvs more).length<=kvs.length + more.length
 |[],kvs=>by show kvs.length<=kvs.length + 0;omega
 |p :: r,kvs=>by
  have h1:=YAJ r (Zg kvs p.1 p.2);have h2:=Xl kvs p.1 p.2;show(ZY (Zg kvs p.1 p.2) r).length<=_;rw[YJY];omega
theorem YCT {P:Program}{w:World}:∀{kvs:List (Key×V)}{ws:List (Value×Value)},VV (kvs.map λkv=>(kV kv.1,kv.2)) ws->∃rs,Carries (Y0 P w) ws rs/\KV kvs rs
 |[],_,r=>by rw[List.map_nil]at r;cases r;exact⟨[],True.intro,.nil⟩
 |p :: kvs,_,r=>by
  rw[YJO]at r;cases r with
  |@cons a b as bs h t=>
   obtain⟨rs,c,q⟩:=YCT (P:=P) (w:=w) t;obtain⟨b1,b2⟩:=b;exact⟨(p.1,b2) :: rs,⟨YAg h.1,U,c⟩,.cons ⟨U,h.2⟩ q⟩
def tDisp (trs:List (TE×TE)):TE:=λσ H Q=>∀p,H p=none->YF1 trs σ (upd H p (.dK [])) λps H2=>H2 p=some (.dK [])/\∃kvs:List (Key×V),ps=kvs.map (λkv=>(kV kv.1,kv.2))/\kvs.length<=15/\Q (.ref p) (upd H2 p (.dK (ZY [] kvs)))
theorem YGa {X:Cx}{pos:Pos}{keys:List (Option Expr)}{values:List Expr}{trs:List (TE×TE)} (h:PPs X pos keys values trs) (hall:keys.all (·.isSome)=true) (hl:keys.length=values.length) (h0:keys≠[])
  (yG:keys.length<=15):PE X (.Dict keys values pos) (tDisp trs):=by
 intro pins s σ H Q I q;have hn:=I.hok.fresh (YJB s.heap.objs.size);have I1:=I.laid (a:=s.heap.objs.size) (o:=.dK []) (h':=s.heap.push { cls:=.type "dict",data:=.dict #[] }) (t':=s.toks) (λ_ _ q=>YI9 _ q) (YJB _) (YE2 s.heap I.big);refine wpAny_Dict_walk (knd:=Y0 X.prog X.w) hall hl h0 yG (thn (h pins _ σ _ _ I1 (q _ hn)) ?_);rintro ws s2 ⟨ps,H2,I2,rel,e,kvs,ep,lk,q2⟩;subst ep;obtain⟨rs,c,rk⟩:=YCT (P:=X.prog) (w:=X.w) rel;obtain⟨z,hd,vs0,r0,dd⟩:=dk_of I2.hok e;cases r0;refine⟨rs,c,dd,λh' rD hs=>⟨.ref s.heap.objs.size,_,?_,U,q2⟩⟩;have hz:(ZY [] kvs).length<=sizeLine:=by
  have h1:=YAJ kvs [];rw[List.length_nil]at h1;rw[sizeLine_eq];omega
 have he:∃q,h'.get? s.heap.objs.size=some q:=let ⟨q,_,_,hq,_⟩:=rD;⟨q,hq⟩
 exact YEP I2 (by rw[e];exact True.intro) hs he (YIB hz hd (rk.merge .nil) rD)
structure M1 (X:Cx) (o:Expr) (m:Str) (bZ:Pos) (e:Expr) (aU:Pos):Prop where
 base:attributeBase o m X.env (eval o X.env)=eval o X.env
 few:((backTo aU (starEach [e] X.env)).all (λx=>!x.1) && (backToKw aU (keywordEach [] X.env)).all (λx=>x.1.isSome)
  && decide (([e]:List Expr).length + ([]:List Keyword).length + (if ([]:List Keyword).isEmpty then 0 else 1) < 30))=true
 line:(bZ.endLine == aU.line)=true
 trees:backTo aU (starEach [e] X.env)=[(false,eval e X.env)]
def IsD (H:Hp) (a:Addr):Prop:=(∃kvs,Rd H a (.dK kvs))\/∃kvs,Rd H a (.dT kvs)
theorem isD_at {X:Cx}{pins:List (Addr×Obj)}{σ:St}{H:Hp}{s:Shared}{a:Addr} (I:Inv X pins σ H s) (d:IsD H a):
  s.TypeIs (.ref a) "dict"/\(∀b,Value.ref a=.ref b->∃ob,s.heap.get? b=some ob/\ob.dict=none)/\(a == sysModules)=false:=by
 rcases d with ⟨kvs,e⟩ |⟨kvs,e⟩
 ·obtain⟨_,hd,vs,_,dd⟩:=YAh I.hok e;refine⟨dd.typeIs,λb q=>?_,hd⟩;cases q;obtain⟨ob,_,_,h1,h2,_⟩:=dd;exact⟨ob,h1,h2.2.1⟩
 ·obtain⟨_,hd,xs,_,dd⟩:=YCR I.hok e;refine⟨dd.typeIs,λb q=>?_,hd⟩;cases q;obtain⟨ob,_,_,h1,h2,_⟩:=dd;exact⟨ob,h1,h2.2.1⟩
section
variable {X:Cx}{pins:List (Addr×Obj)}{σ:St}{H:Hp}{s:Shared}{a:Addr}{y d:V}{u r:Value}{o:Option V}{A:Around}{E:Value->Shared->Prop}
theorem d_get1 {Q:Value->Shared->Prop} (hu:A.units + 1 < cLine) (I:Inv X pins σ H s) (g:JX H a y o) (ry:Ym y u) (h:∀w' s',Inv X pins σ H s'->Ym (o.getD .non) w'->Q w' s'):
  wpAny (model X.prog X.w) A (call (.builtin "dict.get") [.ref a,u]) Q E s:=by
 rcases g with ⟨kvs,k,e,ey,l⟩ |⟨kvs,k,b,e,ey,eb,l⟩
 ·subst ey;obtain⟨z,hd,vs,rel,dd⟩:=YAh I.hok e;refine call_meetsIn PySem.F.slot_dict_get dd.typeIs PySem.F.entry_dict_get (PySem.F.args_dict_get_2 _ _) (meets_dict_get (Y0 X.prog X.w) a (YAg ry) hd) ⟨_,dd.mapOf,h _ _ (I.tok _) ?_⟩;rw[l];exact(rel.val k).getD rfl
 ·subst ey;cases (show u=Value.ref b from ry);obtain⟨z,hd,xs,rel,dd⟩:=YCR I.hok e;refine call_meetsIn PySem.F.slot_dict_get dd.typeIs PySem.F.entry_dict_get (PySem.F.args_dict_get_2 _ _) (meetsH_dict_get (tupleKind (Y0 X.prog X.w)) a b hd) ⟨tupleKind_room_in1 hu,k,xs,YBB I.hok eb,dd,h _ _ (I.tok _) ?_⟩;rw[l];exact(rel.val k).getD rfl
end
def tDGet1 (td ty:TE):TE:=λσ H Q=>td σ H λx H1=>∃a,x=.ref a/\IsD H1 a/\ty σ H1 λy H2=>∃o,JX H2 a y o/\Q (o.getD .non) H2
section
variable {X:Cx}{o e f:Expr}{bZ aU:Pos}{td ty tx:TE}
theorem YIE (hu:X.A.units + 1 < cLine) (ho:PE X o td) (he:PE X e ty) (m:M1 X o "get" bZ e aU):PE X (.Call (.Attribute o "get" bZ) [e] [] aU) (tDGet1 td ty):=by
 intro pins s σ H Q I h;refine wpAny_Call_method m.base m.few m.line PySem.F.plainAttrs_dict PySem.F.slot_dict_get PySem.F.type_dict_get (thn (ho pins s σ H _ I h) ?_);rintro u s1 ⟨x,H1,I1,rx,a,ex,d,q1⟩;subst ex;obtain rfl:u=Value.ref a:=rx;obtain⟨t1,t2,_⟩:=isD_at I1 d;refine⟨t1,t2,?_⟩;rw[m.trees];refine Calls.callWith_builtin rfl (Calls.evalArgs_plain (Calls.spliced_cons (thn (he pins s1 σ H1 _ I1 q1) ?_)));rintro iv s2 ⟨y,H2,I2,ry,ov,g,q2⟩;refine Calls.spliced_nil ?_;exact d_get1 hu I2 g ry λw' s3 I3 k_=>⟨_,H2,I3,k_,q2⟩
end
section
variable {X:Cx}{pins:List (Addr×Obj)}{σ:St}{H:Hp}{s:Shared}{a:Addr}{kvs:List (Key×V)}{A:Around}{E:Value->Shared->Prop}
end
section
variable {X:Cx}{pins:List (Addr×Obj)}{σ:St}{H:Hp}{s:Shared}{a:Addr}{y:V}{u:Value}{A:Around}{E:Value->Shared->Prop}
end
end L2
namespace Att
open PySem PySem.W PySem.Calls PyProof.Rows
theorem YBr {P:Params}{h:Heap}:∀(ns:List Int) (vs:List Value),WellAll P h vs (ns.map WData.int)->IntsAre vs ns:=by
 intro ns
 induction ns with
 |nil=>
  intro vs w;rw[List.map_nil]at w;cases w;exact .nil
 |cons n ns ih=>
  intro vs w;rw[YJO]at w;cases w with
  |cons a b=>
   cases a;exact .cons _ _ (ih _ b)
theorem YHN {l:OpenLaw}{n:Nat} (hn:l.most=some n) {P:Params}{h:Heap}{args:List WData}{vals:List Value}
  (qp:l.row.toRowW.claim.pre args=true) (hwl:WellAll P h vals args):
  ∃a vs ns,vals=[Value.ref a]/\args=[WData.list (ns.map WData.int)]/\h.get? a=some { cls:=.type "list",data:=.seq vs.toArray }/\IntsAre vs ns/\ns.length<=n:=by
 have uI:WShape.hasAll [] args [.list .int]=true:=(pre_splitW qp).1;have hc:l.pre.holds [] { args:=args }=true:=(pre_splitW qp).2;obtain⟨d,r,rfl,h1,h2⟩:=hasAllW_cons uI;obtain rfl:=hasAllW_nil h2;obtain⟨xs,rfl,h3⟩:=hasW_list h1;obtain⟨ns,rfl⟩:=items_int h3;have hlen:ns.length<=n:=by
  unfold OpenLaw.pre at hc;have h4:(WTm.not (.lt (.lit (.int (n:Int))) (.len (.arg 0)))).holds [] { args:=[.list (ns.map .int)] }=true:=by
   have h4:=(holds_andW hc).1;rw[hn]at h4;exact h4
  have h5:=condW_of h4 (w_not (w_lt w_lit (w_len_list (w_arg rfl))));rw[YI6]at h5;refine Nat.le_of_not_lt λq=>?_
  have q':(n:Int) < ((ns.length:Nat):Int):=by omega
  first
   |(rw[YI7 q']at h5;exact absurd h5 (by decide))
   |(simp at h5;omega)
 cases hwl with
 |cons w1 w2=>
  cases w2;cases w1 with
  |list ho hall=>exact⟨_,_,ns,U,U,ho,YBr ns _ hall,hlen⟩
theorem YHO (l:OpenLaw) (args:List WData):l.row.toRowW.claim.post args (.bool true) args=true:=
 postW_of (r:=l.row.toRowW) (X:=(true == true))
  (show WShape.has [] (.bool true) .bool=true by first |rfl |decide |simp[WShape.has,WShape.arms,WShape.armsAll])
  (show(WTm.eq .res (.lit (.bool true))).value [] { args:=args,res:=some (.bool true),after:=args }=some (.bool (true == true)) from w_eq_bool (w_res rfl) w_lit) rfl
theorem YE4 {l:OpenLaw}{n:Nat}{q:Program}{loose:List Str}{XP:(Str->Option Value)->Heap->Prop}{YP:World->Heap->Prop}{d:DefRec}
  (hn:l.most=some n) (hdf:d.params.defaults=[])
  (call:∀(w:World) (s₀ s₁:Shared) (mg mb:Str->Option Value) (fa:Addr) (o:Obj) (pm cd doc:Value) (a:Addr) (vs:List Value) (ns:List Int),
   Ground q loose [] XP w s₀ mg mb s₁.heap->YP w s₁.heap->
   s₁.heap.get? fa=some o->o.data=.func (docDef d.name d.params d.body d.scope pm cd doc)->s₁.heap.CodeRec cd d.name->mg d.name=some (.ref fa)->
   s₁.heap.get? a=some { cls:=.type "list",data:=.seq vs.toArray }->IntsAre vs ns->ns.length<=n->s₁.gens=#[]->
   codeAny (model l.prog w) callerA (.call (.ref fa) ⟨[.ref a],[]⟩) (λr s'=>r=.ok (.ret (.bool true))/\OldK s₁.heap s'.heap/\s'.os=s₁.os/\AllBare s'.gens) s₁):
  WalkO q loose XP YP l.row.toRowW d [] (λf vs=>PySem.call f vs):=by
 intro w s₀ s₁ mg mb G Y fa o pm cd doc dV kV ho hd hcd hD sY hg args vals as qp hlay hrd hwl hlo;obtain rfl:dV=.none:=Dflts.none hD hdf;obtain rfl:kV=.none:=Dflts.noKw hD;obtain⟨a,vs,ns,rfl,rfl,rE,nW,hlen⟩:=YHN hn qp hwl;refine enter_call (codeAny_mono (call w s₀ s₁ mg mb fa o pm cd doc a vs ns G Y ho (fd_plain hd) hcd sY rE nW hlen hg) λr s' hq=>?_);obtain⟨rfl,h2,h3,h4⟩:=hq;exact⟨.inl ⟨.bool true,.bool true,[],U,λ_=>rfl,.bool true,YHO l _,λ_=>⟨List.Pairwise.nil,λ_ hm=>(nomatch hm)⟩⟩,h2,h3,h4⟩
section
variable {prog:Program}{w:World}{A:Around}{E:Value->Shared->Prop}{s:Shared}{K:Frag}
end
end Att
namespace L2
open PySem PySem.Spec PyProof.Rows
theorem YDi:∀{vs:List Value}{ns:List Int},IntsAre vs ns->Yi (ns.map V.int) vs
 |_,_,.nil=>.nil
 |_,_,.cons n t h=>.cons ⟨t,U⟩ (YDi h)
def Only (H:Hp):Prop:=∀b,H b=none\/∃o xs,H b=some (.frz o (.lst xs))
theorem YIF {P:Program}{w:World}{K:W.Frag}{mg mb:Str->Option Value}{CX:CXT}{k:Nat}{fa a:Addr}{fd:FuncData}{x:Str}{sp:Sp}{s₁:Shared}{vs:List Value}{ns:List Int}
  (KX:K.In s₁.heap) (hns:s₁.heap.Ns mainGlobals mg) (hb:s₁.heap.Ns builtinsNs mb) (hbb:∀x:Str,x≠"__name__"->mb x=bootBuiltins x) (uJ:s₁.heap.NoLimit) (hg:s₁.gens=#[])
  (ha:s₁.heap.get? a=some { cls:=.type "list",data:=.seq vs.toArray }) (hi:IntsAre vs ns) (hl:ns.length<=sizeLine) (hr:JJ k callerA)
  (F:∀base:Heap,K.In base->base.Ns mainGlobals mg->Yv P w K mg base CX k fa fd [x] sp) (sZ:∀(s:Shared) (u:Value),BindsTo s fd ⟨[u],[]⟩ [(x,u)])
  (hsp:∀H:Hp,Only H->SqL K H a (ns.map V.int)->sp [.ref a] H (λv _=>v=.bl true) λ_ _ _=>False)
  (hCX:∀H e s',CX [] H s₁ (λ_ _ _=>False) e s'->False):
  codeAny (model P w) callerA (.call (.ref fa) ⟨[.ref a],[]⟩) (λr s'=>r=.ok (.ret (.bool true))/\OldK s₁.heap s'.heap/\s'.os=s₁.os/\AllBare s'.gens) s₁:=by
 have rv:=YDi hi;have lenV:=hi.length;have core:∀H:Hp,Only H->SqL K H a (ns.map V.int)->HOk P w H s₁.heap->(∀b,H b≠none->b=a)->(H a≠none->K.lookup a=none)->
   codeAny (model P w) callerA (.call (.ref fa) ⟨[.ref a],[]⟩) (λr s'=>r=.ok (.ret (.bool true))/\OldK s₁.heap s'.heap/\s'.os=s₁.os/\AllBare s'.gens) s₁:=by
  intro H hO hS hok hA hK;have base_of:∀{b:Addr}{o:Obj},s₁.heap.get? b=some o->H b=none->(YEE s₁.heap H).get? b=some o:=λe n=>YHp e n
  have noA:∀{b:Addr}{o:Obj}{es:Array DictEntry}{ep:Nat},s₁.heap.get? b=some o->o.data=.dict es ep->H b=none:=λ{b o es ep} e d=>by
   cases q:H b with
   |none=>rfl
   |some u=>
    have e':b=a:=hA b (by rw[q];simp);subst e';rw[ha]at e;cases e;have d':Data.seq vs.toArray _=Data.dict es ep:=d;cases d'
  have nsK:∀{b:Addr}{m:Str->Option Value},s₁.heap.Ns b m->(YEE s₁.heap H).Ns b m:=λ{b m} ⟨o,es,ep,e,d,r⟩=>⟨o,es,ep,base_of e (noA e d),d,r⟩
  have hKb:K.In (YEE s₁.heap H):=λb o e=>base_of (KX b o e) (by
   cases q:H b with
   |none=>rfl
   |some u=>
    have e':b=a:=hA b (by rw[q];simp);subst e';rw[hK (by rw[q];simp)]at e;cases e)
  have hM:Mod K mg (YEE s₁.heap H):=⟨hKb,nsK hns,⟨mb,nsK hb,hbb⟩,let ⟨mc,h1,h2⟩:=uJ;⟨mc,nsK h1,h2⟩⟩;have e0:Env0 P w K mg (YEE s₁.heap H) callerA [] s₁ H:=⟨U,hM,λb o e=>of_hidT e,Nat.le_of_eq (YHB _ _),trivial,λb hb=>absurd (show b∈([]:List Addr) from hb) (by simp),hok,.of_eq hg⟩;refine codeAny_mono ((F _ hKb (nsK hns)).run callerA [] s₁ H ⟨[.ref a],[]⟩ [.ref a] [.ref a] _ _ hr e0 (sZ s₁ (.ref a)) (.cons rfl .nil) (hsp H hO hS)) λr s' h=>?_
  cases r with
  |error e=>exact(hCX H e s' h).elim
  |ok fl=>
   cases fl with
   |next=>exact False.elim h
   |brk=>exact False.elim h
   |cont=>exact False.elim h
   |ret u=>
    obtain⟨v,H',os,bare,un,hok',r',q⟩:=h;have q':v=.bl true:=q;subst q';obtain rfl:u=Value.bool true:=r';refine⟨U,OldK.of_keep λb o e=>?_,os,bare⟩;cases q:H b with
    |none=>exact un.keep b o e q (by intro z;exact absurd (show b∈([]:List Addr) from z) (by simp)) (by simp)
    |some u=>
     rcases hO b with z |⟨ob,xs,z⟩
     ·rw[q]at z;cases z
     ·have z2:=un.frzs b ob _ z;obtain⟨e1,_⟩:=hok b _ z;obtain⟨e2,_⟩:=hok' b _ z2;rw[e]at e1;cases e1;exact e2
 cases hk:K.lookup a with
 |some o=>
  have e:=KX a o hk;rw[ha]at e;cases e;refine core (λ_=>none) (λ_=>.inl rfl) (.inr ⟨_,vs.toArray,_,hk,U,U,U,by rw[YJN,lenV];exact hl,by simpa using rv⟩) (λb u z=>by have z':(none:Option HO)=some u:=z;cases z') (λb z=>absurd rfl z) λz=>absurd rfl z
 |none=>
  refine core (λb=>if b=a then some (.frz { cls:=.type "list",data:=.seq vs.toArray } (.lst (ns.map V.int))) else none) (λb=>?_) (.inl (.inr ⟨{ cls:=.type "list",data:=.seq vs.toArray },if_pos rfl⟩)) (λb u z=>?_) (λb z=>?_) λ_=>hk
  ·by_cases hb:b=a
   ·exact .inr ⟨_,_,if_pos hb⟩
   ·exact .inl (if_neg hb)
  ·by_cases hb:b=a
   ·have z':=(if_pos hb).symm.trans z;cases z';subst hb;exact⟨ha,by rw[YI6];exact hl,vs,_,rv,ha⟩
   ·have z':=(if_neg hb).symm.trans z;cases z'
  ·by_cases hb:b=a
   ·exact hb
   ·exact absurd (if_neg hb) z
end L2
namespace L2
open PySem PySem.Spec PyProof.Rows
theorem walk_of {l:PySem.W.OpenLaw}{n k:Nat}{q:Program}{loose:List Str}{XP:(Str->Option Value)->Heap->Prop}{YP:World->Heap->Prop}{d:DefRec}{K:Params->W.Frag}{CX:World->CXT}{sp:World->Sp}{x:Str}
  (hn:l.most=some n) (hn2:n<=sizeLine) (hdf:d.params.defaults=[]) (hr:JJ k callerA)
  (hY:∀(w:World) (h:Heap),YP w h->(K w.params).In h)
  (F:∀(w:World) (mg:Str->Option Value) (fa:Addr) (h:Heap),(K w.params).In h->h.Ns mainGlobals mg->mg d.name=some (.ref fa)->
   ∃fd:FuncData,(∀(s:Shared) (u:Value),BindsTo s fd ⟨[u],[]⟩ [(x,u)])/\
    ∀base:Heap,(K w.params).In base->base.Ns mainGlobals mg->Yv l.prog w (K w.params) mg base (CX w) k fa fd [x] (sp w))
  (hsp:∀(w:World) (H:Hp) (a:Addr) (ns:List Int),ns.length<=n->Only H->SqL (K w.params) H a (ns.map V.int)->sp w [.ref a] H (λv _=>v=.bl true) λ_ _ _=>False)
  (hCX:∀(w:World) (H:Hp) (s:Shared) (e:Value) (s':Shared),CX w [] H s (λ_ _ _=>False) e s'->False):
  PySem.W.WalkO q loose XP YP l.row.toRowW d [] (λf vs=>PySem.call f vs):=by
 refine Att.YE4 hn hdf λw s₀ s₁ mg mb fa o pm cd doc a vs ns G Y ho hd hcd sY rE nW hlen hg=>?_
 have KX:=hY w _ Y;obtain⟨fd,hb,hF⟩:=F w mg fa _ KX G.T.g sY;exact YIF KX G.T.g G.T.b G.T.builtins G.T.nolimit hg rE nW (YJR hlen hn2) hr hF hb (λH hO hS=>hsp w H a ns hlen hO hS) λH e s'=>hCX w H s₁ e s'
end L2
namespace L2
open PySem PySem.Spec PyProof.Rows
def YB8 (s:Stmt) (j:Nat):Stmt:=match s with
 |.ClassDef _ _ _ body _ _ _ _ _ _ _=>body.getD j (.Pass ⟨0,0,0,0⟩)
 |_=>.Pass ⟨0,0,0,0⟩
def JC (s:Stmt):Arguments:=match s with
 |.FunctionDef _ a _ _ _ _ _ _ _ _=>a
 |_=>{ posonlyargs:=[],args:=[],vararg:=none,kwonlyargs:=[],kw_defaults:=[],kwarg:=none,defaults:=[] }
def Zc (s:Stmt):List Stmt:=match s with
 |.FunctionDef _ _ b _ _ _ _ _ _ _=>b
 |_=>[]
def YG (s:Stmt):Scope:=match s with
 |.FunctionDef _ _ _ _ _ _ sc _ _ _=>sc
 |_=>{ kind:=.function,names:=[],isGenerator:=false,isCoroutine:=false }
abbrev CX0:CXT:=λ_ _ _ _ _ _=>False
abbrev E0:XK:=λ_ _ _=>False
theorem Yg {X:Cx}:Xi CX0 X E0:=λ_ _ _ _ _ _ _ h=>h.elim
structure Fun (K:W.Frag) (x qual:Str) (st:Stmt) (f:Addr) (fd:FuncData):Prop where
 ex:∃(oc:Value) (od:Option Addr) (kV doc pm:Value) (an:Option Addr) (aB ct:Value) (osl:Array (Option Value)),
  fd=PySem.W.fnOf x qual (JC st) (Zc st) (YG st) .none kV doc pm an aB ct/\K.lookup f=some ⟨oc,od,.func fd,osl⟩/\PySem.W.codeIn K aB qual=true
 kp:PySem.W.keepIn K (.ref f)=true
section
variable {P:Program}{w:World}{K:W.Frag}{mg:Str->Option Value}{base:Heap}
theorem Fun.ok {x qual:Str}{st:Stmt}{f:Addr}{fd:FuncData}{N ps:List Str}{k:Nat}{sp:Sp} (F:Fun K x qual st f fd) (S:YS N ps (YG st)) (len:∀vs H Q E,sp vs H Q E->vs.length=ps.length)
  (hbody:∀(aB:Value) (A:Around) (outer:List Env) (s:Shared) (H:Hp) (vs:List V) (Q:VK) (E:XK),JJ k (A.deeper (envOfC qual (YG st) s.heap.objs.size f aB))->sp vs H Q E->
   ∃t,PSs (YBA CX0 P w K mg base N qual (YG st) f aB A outer s H E).nox (Zc st) t/\t { nx:=λ_ H'=>Q .non H',rt:=Q } (start N vs) H):Yv P w K mg base CX0 (k + 1) f fd ps sp:=by
 obtain⟨oc,od,kV,doc,pm,an,aB,ct,osl,rfl,lk,hcd⟩:=F.ex;refine fn_of lk hcd S len λA outer s H vs Q E hr hsp=>?_
 obtain⟨t,h,q⟩:=hbody aB A outer s H vs Q E hr hsp;exact⟨t,h.nox,q⟩
theorem Fun.binds {x qual:Str}{st:Stmt}{f:Addr}{fd:FuncData}{ps:List Str} (F:Fun K x qual st f fd)
  (h:∀(kV doc pm:Value) (an:Option Addr) (aB ct:Value) (us:List Value),us.length=ps.length->bindArgs (PySem.W.fnOf x qual (JC st) (Zc st) (YG st) .none kV doc pm an aB ct) ⟨us,[]⟩=pure (ps.zip us)):Xh K fd ps []:=by
 obtain⟨oc,od,kV,doc,pm,an,aB,ct,osl,rfl,lk,hcd⟩:=F.ex;exact .all (h kV doc pm an aB ct)
theorem YIG {x qual:Str}{st:Stmt}{f:Addr}{oc:Value}{od an:Option Addr}{osl:Array (Option Value)}{kV doc pm aB ct:Value} (l:K.lookup f=some ⟨oc,od,.func (PySem.W.fnOf x qual (JC st) (Zc st) (YG st) .none kV doc pm an aB ct),osl⟩)
  (c:PySem.W.codeIn K aB qual=true) (k:PySem.W.keepIn K (.ref f)=true):Fun K x qual st f (PySem.W.fnOf x qual (JC st) (Zc st) (YG st) .none kV doc pm an aB ct):=⟨⟨oc,od,kV,doc,pm,an,aB,ct,osl,U,l,c⟩,k⟩
end
theorem YBg {A:Around}{k:Nat} (hr:JJ k A):A.units + 1 < cLine:=Nat.lt_of_le_of_lt (Nat.add_le_add_left (by decide:1<=64) _) hr.units
section
variable {X:Cx}
theorem pv (i:Nat) {x:Str}{pos:Pos} (hN:X.N[i]?=some x:=by rfl) (hv:Vis X.env.scope x:=by first |exact Or.inl rfl |exact Or.inr (Or.inl rfl) |exact Or.inr (Or.inr rfl)) (hd:(x == ("__debug__":Str))=false:=by decide)
  (hcd:(x == ("__classdict__":Str))=false:=by decide):PE X (.Name x pos) (tVar i):=pe_var hN hv hd hcd
end
theorem ZB {A B:Prop} (h:B):if false=true then A else B:=by
 rw[if_neg YJT];exact h
theorem ZO {A B:Prop} (h:A):if true=true then A else B:=by
 rw[if_pos rfl];exact h
theorem Zt {c A B:Prop} [Decidable c] (h1:c->A) (h2:¬c->B):if c then A else B:=by
 by_cases h:c
 ·rw[if_pos h];exact h1 h
 ·rw[if_neg h];exact h2 h
def YI (H H':Hp):Prop:=∀b o,H b=some o->H' b=some o
theorem YI.refl (H:Hp):YI H H:=λ_ _ h=>h
theorem YI.trans {H H1 H2:Hp} (a:YI H H1) (b:YI H1 H2):YI H H2:=λc o h=>b c o (a c o h)
theorem YI.free {H H':Hp} (e:YI H H') {l:Addr} (h:H' l=Option.none):H l=Option.none:=by
 cases q:H l with
 |none=>rfl
 |some o=>
  rw[e l o q]at h;cases h
theorem YI.seq {K:W.Frag}{H H':Hp}{a:Addr}{xs:List V} (e:YI H H') (h:SqL K H a xs):SqL K H' a xs:=by
 rcases h with (h |⟨o,h⟩) |h
 ·exact .inl (.inl (e _ _ h))
 ·exact .inl (.inr ⟨o,e _ _ h⟩)
 ·exact .inr h
end L2
set_option maxHeartbeats 4000000
namespace L2
open PySem PySem.Spec PyProof.Rows
theorem Yy.at_ {P:Program}{w:World}{H:Hp}{h:Heap}{a:Addr}{o:HO} (x:Yy P w H h a o):∃u,h.get? a=some u:=by
 cases o with
 |lst xs=>obtain⟨_,_,_,_,e⟩:=x;exact⟨_,e⟩
 |tup xs=>obtain⟨_,_,_,o,e,_⟩:=x;exact⟨_,e⟩
 |dK kvs=>obtain⟨_,_,_,_,o,_,_,e,_⟩:=x;exact⟨_,e⟩
 |dT kvs=>obtain⟨_,_,_,_,o,_,_,e,_⟩:=x;exact⟨_,e⟩
 |set S n=>obtain⟨o,_,_,_,e,_⟩:=x;exact⟨_,e⟩
 |ins C dx fs=>obtain⟨_,_,_,e,_⟩:=x;exact⟨_,e⟩
 |own y=>obtain⟨o,e⟩:=x;exact⟨_,e⟩
 |xd fs=>obtain⟨_,⟨o,_,_,e,_⟩,_⟩:=x;exact⟨_,e⟩
 |rng lo hi=>obtain⟨_,_,_,e⟩:=x;exact⟨_,e⟩
 |frz ob u=>obtain⟨e,_⟩:=x;exact⟨_,e⟩
 |tbl ps=>exact⟨_,(show h.get? a=some _ from x)⟩
 |met f y=>exact⟨_,(show h.get? a=some _ from x)⟩
 |ext φ=>obtain⟨_,e,_⟩:=x;exact e
structure Fly (P:Program) (w:World) (l:List Env) (H:Hp) (s:Shared) (e:Addr) (cls:Value) (H':Hp) (s':Shared):Prop where
 os:s'.os=s.os
 bare:AllBare s'.gens
 un:Un (frs l) [] H H' s.heap s'.heap
 hok:HOk P w H' s'.heap
 new:H' e=none
 fly:∃B a0,Heap.FlyingW B l e cls a0 s'.heap/\(∀b u,H' b=some u->∃o,B.get? b=some o)/\∀b o,s.heap.get? b=some o->b∉frs l->∃o',B.get? b=some o'
def CXo (P:Program) (w:World):CXT:=λl H s E ev s'=>∃e cls H',ev=.ref e/\Fly P w l H s e cls H' s'/\E cls none H'
theorem YIH {fs:List Addr}{H H':Hp}{h h' h'' B:Heap} (un:Un fs [] H H' h h') (sB:B.StaysIn h') (sB':B.StaysIn h'') (up:h'.UpToSlots h'')
  (fr:∀b∈fs,∃o,h'.get? b=some o/\∀vs,o.data≠.fields vs) (old:∀b o,h.get? b=some o->b∉fs->∃o',B.get? b=some o'):Un fs [] H H' h h'' where
 keep:=λb o q n hb hx=>by
  have e1:=un.keep b o q n hb hx;obtain⟨o',eB⟩:=old b o q hb;have e2:=sB b o' eB;rw[e1]at e2;cases e2;exact sB' b o eB
 slot:=λb o q n hb hx=>by
  obtain⟨sl,e1⟩:=un.slot b o q n hb hx;obtain⟨o',e2,nf⟩:=fr b hb;rw[e1]at e2;cases e2;obtain⟨qO,e3⟩:=up b _ e1 nf;exact⟨qO,e3⟩
 free:=un.free
 there:=λb o q hx=>by
  by_cases hb:b∈fs
  ·obtain⟨o',e2,nf⟩:=fr b hb;obtain⟨qO,e3⟩:=up b _ e2 nf;exact⟨_,e3⟩
  ·obtain⟨o',eB⟩:=old b o q hb;exact⟨o',sB' b o' eB⟩
 tups:=un.tups
 frzs:=un.frzs
 tbls:=un.tbls
theorem YGb {P:Program}{w:World}{H:Hp}{h h' B:Heap} (ok:HOk P w H h) (sB:B.StaysIn h) (sB':B.StaysIn h') (tr:∀b u,H b=some u->∃o,B.get? b=some o):HOk P w H h':=λa o ea=>
 (ok a o ea).stay (λb u hb eb=>by
  have tb:∃v,H b=some v:=hb.elim (λz=>⟨o,by rw[z];exact ea⟩) λz=>⟨_,z⟩
  obtain⟨v,hv⟩:=tb;obtain⟨o',eB⟩:=tr b v hv;have e2:=sB b o' eB;rw[eb]at e2;cases e2;exact sB' b u eB) (λ_ z=>z) λ_ _ z=>z
theorem YII {fs rY:List Addr}{L:Addr}{H H1 H2:Hp}{h h1 h2:Heap} (a:Un fs [] H H1 h h1) (b:Un rY [] H1 H2 h1 h2) (sub:∀x∈rY,x=L\/x∈fs) (sup:∀x∈fs,x∈rY) (hL:h.objs.size<=L):Un fs [] H H2 h h2:=by
 have nL:∀c o,h.get? c=some o->c≠L:=λc o q z=>absurd (YJJ q) (by rw[z];exact Nat.not_lt.mpr hL)
 have no:∀c o,h.get? c=some o->c∉fs->c∉rY:=λc o q n z=>(sub c z).elim (nL c o q) n
 exact⟨λc o q n hc hx=>b.keep c o (a.keep c o q n hc hx) (a.free c o q n hx) (no c o q hc) hx,
  λc o q n hc hx=>by
   obtain⟨sl,e1⟩:=a.slot c o q n hc hx;obtain⟨qO,e2⟩:=b.slot c _ e1 (a.free c o q n hx) (sup c hc) hx;exact⟨qO,e2⟩,
  λc o q n hx=>by
   obtain⟨o',e1⟩:=a.there c o q hx;exact b.free c o' e1 (a.free c o q n hx) hx,
  λc o q hx=>by
   obtain⟨o',e1⟩:=a.there c o q hx;exact b.there c o' e1 hx,
  λc xs q=>b.tups c xs (a.tups c xs q),λc ob xs q=>b.frzs c ob xs (a.frzs c ob xs q),
  λc ps q=>by
   obtain⟨m1,e1⟩:=a.tbls c ps q;obtain⟨m2,e2⟩:=b.tbls c _ e1;exact⟨m1 ++ m2,by rw[e2,Array.append_assoc]⟩⟩
structure Sink (X:Cx) (E:XK):Prop where
 made:∀(pins:List (Addr×Obj)) (σ:St) (H:Hp) (s:Shared) (e:Addr) (cls:Value) (args:List Value) (h':Heap),Inv X pins σ H s->Heap.MadeExcOf s.heap h' e cls args->E cls none H->X.xe (.ref e) { s with heap:=h' }
 on:Xi (CXo X.prog X.w) X E
theorem YHP {X:Cx}{pins:List (Addr×Obj)}{σ:St}{H:Hp}{s:Shared} (I:Inv X pins σ H s):
  (PySem.W.hideAll s.heap (frs X.stack)).StaysIn s.heap/\s.heap.FunFrames (PySem.W.hideAll s.heap (frs X.stack)) X.stack/\(∀b o,s.heap.get? b=some o->b∉frs X.stack->(PySem.W.hideAll s.heap (frs X.stack)).get? b=some o)/\
   ∀b u,H b=some u->∃o,(PySem.W.hideAll s.heap (frs X.stack)).get? b=some o:=by
 refine⟨λb o q=>PySem.W.of_hideAll _ q,PySem.W.funFrames_hide I.stack λenv he b hb=>YKU.mpr ⟨env,he,hb⟩,λb o q hb=>PySem.W.hideAll_get _ q hb,λb u q=>?_⟩;obtain⟨o,ho⟩:=(I.hok b u q).at_;exact⟨o,PySem.W.hideAll_get _ ho λz=>by rw[I.stkFree b z]at q;cases q⟩
theorem Xn {P:Program}{w:World}{K:W.Frag}{mg:Str->Option Value}{base:Heap}{N:List Str}{qual:Str}{scope:Scope}{f:Addr}{cd:Value}{A:Around}{outer:List Env}{s:Shared}{H:Hp}{E:XK}:
  Sink (YBA (CXo P w) P w K mg base N qual scope f cd A outer s H E) E where
 made:=by
  intro pins σ H1 s1 e cls args h' I hx hE;obtain⟨sB,ff,inB,tr⟩:=YHP I;show wpAny _ _ (leaving _ (.ref e)) _ _ _;refine wpAny_leaves_madeW (base:=PySem.W.hideAll s1.heap (frs (YBA (CXo P w) P w K mg base N qual scope f cd A outer s H E).stack)) (h:=s1.heap) I.ok.frames rfl sB ff hx λh'' t x1 x2 x3 x4=>?_
  have sB1:(PySem.W.hideAll s1.heap (frs (YBA (CXo P w) P w K mg base N qual scope f cd A outer s H E).stack)).StaysIn h':=λb o q=>hx.keeps b o (sB b o q)
  have tu:Un (frs outer) [] H H1 s.heap s1.heap:=I.base;have old:∀b o,s.heap.get? b=some o->b∉frs outer->∃o',(PySem.W.hideAll s1.heap (frs (YBA (CXo P w) P w K mg base N qual scope f cd A outer s H E).stack)).get? b=some o':=λb o q hb=>by
   obtain⟨o',e1⟩:=tu.there b o q (by simp);refine⟨o',inB b o' e1 λz=>?_⟩;rcases YJK.mp (I.stkSub b z) with z |z
   ·exact absurd (YJJ q) (by rw[z];exact YJw _)
   ·exact hb z
  have fr:∀b∈frs outer,∃o,h'.get? b=some o/\∀vs,o.data≠.fields vs:=λb hb=>by
   obtain⟨_,o,ho,nf⟩:=I.funs.mem hb;exact⟨o,hx.keeps b o ho,nf⟩
  refine⟨e,cls,H1,U,⟨I.os,I.bare,YIH (tu.trans (Un.kept hx.keeps)) sB1 x1.1 x4 fr old,YGb (I.hok.kept hx.keeps) sB1 x1.1 tr,?_,_,_,x1,tr,old⟩,hE⟩;cases q:H1 e with
  |none=>rfl
  |some u=>
   obtain⟨o,ho⟩:=(I.hok e u q).at_;rw[hx.new]at ho;cases ho
 on:=by
  intro pins σ H1 s1 ev s' I uK;obtain⟨e,cls,H',rfl,F,hE⟩:=uK;obtain⟨B,a0,fl,tr,old⟩:=F.fly;show wpAny _ _ (leaving _ (.ref e)) _ _ _;refine wpAny_leaves_onW I.ok.frames rfl fl λh'' x1 x4=>?_
  have tu:Un (frs outer) [] H H1 s.heap s1.heap:=I.base;have sub:∀x∈frs (YBA (CXo P w) P w K mg base N qual scope f cd A outer s H E).stack,x=s.heap.objs.size\/x∈frs outer:=λx hx=>YJK.mp (I.stkSub x hx)
  have sup:∀x∈frs outer,x∈frs (YBA (CXo P w) P w K mg base N qual scope f cd A outer s H E).stack:=λx hx=>YJD _ hx
  have yH:Un (frs outer) [] H H' s.heap s'.heap:=YII tu F.un sub sup (YJB _);have tD:∀b o,s.heap.get? b=some o->b∉frs outer->∃o',B.get? b=some o':=λb o q hb=>by
   obtain⟨o',e1⟩:=tu.there b o q (by simp);refine old b o' e1 λz=>?_
   rcases sub b z with z |z
   ·exact absurd (YJJ q) (by rw[z];exact YJw _)
   ·exact hb z
  have fr:∀b∈frs outer,∃o,s'.heap.get? b=some o/\∀vs,o.data≠.fields vs:=λb hb=>by
   obtain⟨_,o,ho,nf⟩:=fl.2.2.1.mem (sup b hb);exact⟨o,ho,nf⟩
  exact⟨e,cls,H',U,⟨F.os.trans I.os,F.bare,YIH yH fl.1 x1.1 x4 fr tD,YGb F.hok fl.1 x1.1 tr,F.new,B,a0,x1,tr,tD⟩,hE⟩
abbrev bmV:List Value:=[.type "ValueError",.type "Exception",.type "BaseException",.type "object"]
abbrev newV:String:="ValueError.__new__"
def Exc (K:W.Frag) (C:Addr):Prop:=PySem.W.excIn K C bmV newV=true
theorem exc_obj {K:W.Frag}{h:Heap}{C:Addr}{bmB:List Value}{newId:String} (X:K.In h) (q:PySem.W.excIn K C bmB newId=true):
  ∃bm N nm qn bs hdct sn sub ab col dd k0 k1 k2 k3 k5 mN,h.get? C=some (excClassObj nm qn C N bs bm hdct sn sub ab col dd k0 k1 k2 k3 k5 newId)/\h.Ns N mN/\mN "__init__"=none/\OwnTail h bmB bm:=by
 unfold PySem.W.excIn at q;split at q
 ·rename_i dd cd sl ho
  split at q
  ·rename_i C' bm k0 k1 k2 k3 n k5 hm hs
   simp only[YJA,beq_iff_eq,Bool.not_eq_true']at q;obtain⟨⟨⟨⟨⟨rfl,rfl⟩,hdel⟩,ht⟩,hok⟩,hni⟩:=q;obtain⟨nm,bs,mro,ns,qn,hd,sn,sub,ab,col,del⟩:=cd;dsimp only at hm hdel hok hni;subst hm hdel;have hsl:sl=#[k0,k1,k2,k3,some (.builtin n),k5]:=by
    obtain⟨l⟩:=sl;simp only at hs;rw[hs]
   subst hsl;exact⟨bm,ns,nm,qn,bs,hd,sn,sub,ab,col,dd,k0,k1,k2,k3,k5,_,X _ _ ho,.of_isNs (PySem.W.isNs_of_in X hok),PySem.W.nsMap_none_of_in X hok hni,PySem.W.tail_of_in X ht⟩
  ·cases q
 ·cases q
section
variable {X:Cx}{E:XK}{x:Str}{C:Addr}{e:Expr}{t:TA}{np aU pos:Pos}
def tRaise (C:Addr) (E:XK) (t:TA):TS:=λ_ σ H=>t σ H λvs H1=>vs.length<=sizeLine/\E (.ref C) none H1
theorem YAj (S:Sink X E) (hq:Exc X.K C) (hc:X.calm=true) (hg:Gl X x) (hm:X.mg x=some (.ref C)) (ha:PA X [e] t) (hd:(x == ("__debug__":Str))=false:=by decide)
  (he:starEach [e] X.env=(false,eval e X.env) :: starEach [] X.env:=by rfl) (iC:(backTo aU (starEach [] X.env)).any (·.1)=false:=by rfl):
  PS X (.Raise (some (.Call (.Name x np) [e] [] aU)) none pos) (tRaise C E t):=by
 intro pins s σ H D I h;obtain⟨tl,N,nm,q,bs,hdct,sn,sub,ab,col,dd,k0,k1,k2,k3,k5,mN,hC,hN,hni,T⟩:=exc_obj I.mod.kin hq;refine wpAny_Raise_call_subT (C:=C) (nm:=nm) (q:=q) (N:=N) (bs:=bs) (bm:=tl) (hdct:=hdct) (sn:=sn) (sub:=sub) (ab:=ab) (col:=col) (dd:=dd) (k0:=k0) (k1:=k1) (k2:=k2) (k3:=k3) (k5:=k5)
  PySem.F.excBase_ValueError (mN:=mN) (T.hasType PySem.F.excBase_ValueError.hasBase) (I.ok.hd hc) (by rw[he];show(false || (backTo aU (starEach [] X.env)).any (·.1))=false;rw[iC];rfl) hni (YB4 I hg hm ⟨U,?_⟩ hd)
 have hA:=ha aU pins s σ H _ I h;rw[he]at hA ⊢;refine Calls.evalArgs_plain (thn hA λus s2 ⟨vs,H2,I2,r,hz,hE⟩=>⟨U,by rw[<-r.length];exact hz,I2.bk _ _ hC,hN.keeps I2.bk,T.keeps I2.bk,λh' e yI=>?_⟩);exact S.made pins σ H2 s2 e _ _ h' I2 yI hE
end
end L2
namespace L2
open PySem PySem.Spec PyProof.Rows
def XP (X:Cx) (pins:List (Addr×Obj)) (σ:St) (E:XK) (ev:Value) (s':Shared):Prop:=∃(e:Addr) (cls:Value) (H':Hp) (B:Heap) (a0:Value),ev=.ref e/\Inv X pins σ H' s'/\Heap.FlyingW B X.stack e cls a0 s'.heap/\H' e=none/\
 (∀b u,H' b=some u->∃o,B.get? b=some o)/\(∀b o,X.s₀.heap.get? b=some o->b∉frs X.stack->b∉X.ex->∃o',B.get? b=some o')/\(∀p∈X.pn ++ pins,∃o',B.get? p.1=some o')/\E cls none H'
section
variable {X:Cx}{pins:List (Addr×Obj)}{σ:St}{H:Hp}{s s':Shared}{E:XK}
end
section
variable {X:Cx}{k:Nat}{f:Addr}{fd:FuncData}{ps:List Str}{sp:Sp}{iy:List V}{ds:List Value}{x:Str}{p pos:Pos}{e:Expr}{es:List Expr}{t:TA}
variable {te:St->Hp->VK->XK->Prop}
end
section
variable {X:Cx}{pins:List (Addr×Obj)}{σ:St}{H:Hp}{s:Shared}
end
end L2
namespace L2
open PySem PySem.Spec PyProof.Rows
def Its (x:Str):It:=⟨λi _=>i < x.cps.size,λi H v H'=>H'=H/\∃c,x.cps[i]?=some c/\v=.str ⟨#[c]⟩,λi _=>i=x.cps.size⟩
abbrev YF2:List String:=["enumerate","zip","dict_itemiterator","dict_reverseitemiterator","odict_iterator","itertools.zip_longest","itertools.pairwise"]
theorem YE5 {P:Program}{w:World}{K:W.Frag}{tg:Expr}{ty:String}{x:Str}{t:Tok} (it:Addr)
  (W:∀A:Around,A.handled=none->Walks P w A it [it] [it] x.cps.size (SignAt x) (λi h=>h.IsStrIter it ty x t i))
  (hn:YF2.contains ty=false)
  (hself:∀(A:Around) (i:Nat) (s:Shared) (Q:Value->Shared->Prop) (E:Value->Shared->Prop),s.heap.IsStrIter it ty x t i->Q (.ref it) s->wpAny (model P w) A (pyIter (.ref it)) Q E s):
  YEu P w K tg (Its x) [it] it (λi h=>h.IsStrIter it ty x t i) where
 mem:=by simp
 obj:=λi h st b hb=>by
  have eb:b=it:=by simpa using hb
  subst eb;obtain⟨o,eo,_,d⟩:=st;exact⟨o,eo,λv z=>by rw[d]at z;cases z⟩
 keep:=λi h h' st k=>by
  obtain⟨o,eo,r⟩:=st;exact⟨o,k it (by simp) o eo,r⟩
 item:=by
  intro X hP hw hK hc i pins s σ H E I hf st hg;subst hP hw hK;obtain⟨f0,f1,f2,f3,f4,f5⟩:=hf it (by simp);refine(W X.A (I.ok.hd hc)).item i s _ _ hg st λv h' tk hv st' kk=>?_
  obtain⟨c,u,uK,rfl⟩:=hv;have I1:Inv X pins σ H { s with heap:=h',toks:=tk }:=I.turned (λb o hb eo=>kk b o (by simpa using hb) eo) f0 f1 f3 f4 f5;obtain⟨o,eo,c',d⟩:=id st';exact⟨_,U,YGU (s:={ s with heap:=h',toks:=tk }) eo c' d hn ⟨.str ⟨#[c]⟩,H,I1,⟨u,U⟩,⟨U,c,uK,U⟩,st',λb hb=>(hf b hb).1⟩⟩
 done:=by
  intro X hP hw hK hc i pins s σ H E I hf st hg;subst hP hw hK;obtain⟨f0,f1,f2,f3,f4,f5⟩:=hf it (by simp);have ei:i=x.cps.size:=hg;subst ei;exact(W X.A (I.ok.hd hc)).done s _ _ st λh' tk kk=>⟨U,I.turned (λb o hb eo=>kk b o (by simpa using hb) eo) f0 f1 f3 f4 f5⟩
 self:=λA i s Q E st h=>hself A i s Q E st h
section
variable {X:Cx}{tg:Expr}
def iStr (tl:TE):TI:=λσ H R=>tl σ H λv H1=>∃x,v=.str x/\R (Its x) H1
theorem YIJ {l:Expr}{tl:TE} (hl:PE X l tl):PI X tg l (iStr tl):=by
 intro pins s σ H R I h;refine thn (hl pins s σ H _ I h) λv s1 ⟨y,H1,I1,r1,q1⟩=>?_
 obtain⟨x,rfl,q⟩:=q1;obtain⟨t,rfl⟩:=r1;have fp:∀b∈[s1.heap.objs.size],YAF X pins H1 b:=λb hb=>by
  have eb:b=s1.heap.objs.size:=by simpa using hb
  subst eb;exact I1.fpOk (YJB _) (I1.hok.fresh (YJB _))
 cases ha:x.cps.all (· < 128)
 ·refine wpAny_pyIter_wide ha ?_;exact⟨s1.heap.objs.size,[s1.heap.objs.size],_,_,H1,U,I1.kept (t':=s1.toks) λb o eo=>YI9 _ eo,
   YE5 (ty:="str_iterator") (t:=t) _ (λA hA=>Walks.strWide hA _ x t) (by decide) (λ_ _ _ _ _ st hq=>wpAny_pyIter_striter_wide st hq),⟨_,YJS _ rfl,U,U⟩,fp,q⟩
 ·refine wpAny_pyIter_ascii ha ?_;exact⟨s1.heap.objs.size,[s1.heap.objs.size],_,_,H1,U,I1.kept (t':=s1.toks) λb o eo=>YI9 _ eo,
   YE5 (ty:="str_ascii_iterator") (t:=t) _ (λA hA=>Walks.strAscii hA _ x t) (by decide) (λ_ _ _ _ _ st hq=>wpAny_pyIter_striter_ascii st hq),⟨_,YJS _ rfl,U,U⟩,fp,q⟩
end
abbrev Y2 (X:Cx) (N:List Str) (scope:Scope) (cl:List (Str×Addr)) (C:Addr) (s₀:Shared) (H₀:Hp) (ex:List Addr) (pn:List (Addr×Obj)):Cx:=
 { X with N:=N,s₀:=s₀,H₀:=H₀,env:=compEnvC scope cl C X.env,outer:=X.stack,stack:=X.stack,ex:=ex,fn:=λ_=>false,pn:=pn,xe:=λ_ _=>False }
def PTs (X:Cx) (ifs:List Expr) (t:TT):Prop:=
 ∀(pins:List (Addr×Obj)) (s:Shared) (σ:St) (H:Hp) (Q:Bool->Hp->Prop),Inv X pins σ H s->t σ H Q->
  wpAny (model X.prog X.w) X.A (forIn ifs true λc r=>if r=true then do let ok <-isTrue c X.env (eval c X.env);pure (ForInStep.yield ok) else pure (ForInStep.yield r)) (TP X pins σ Q) X.xe s
def tYes:TT:=λ_ H Q=>Q true H
theorem ZI {X:Cx}:PTs X [] tYes:=λ_ _ _ H _ I h=>wpAny_tests_nil ⟨H,I,h⟩
theorem pts_one {X:Cx}{c:Expr}{t:TT} (h:PT X c t):PTs X [c] t:=λpins s σ H Q I hw=>wpAny_tests_one (h pins s σ H Q I hw)
def YCU (ρ:List (Option Nat)) (σ:St):St:=ρ.map λo=>o.bind λj=>(σ[j]?).bind id
def YBD (J:It) (g:TG) (tc:TT) (te:TE) (Q:VK) (l:Addr) (τ:St) (H1:Hp):Prop:=
 ∃W:Nat->Nat->List V->St->Hp->Prop,(∃m,W 0 m [] τ (upd H1 l (.lst [])))/\∀i m ys τ H2,W i m ys τ H2->
  (J.stop i H2/\Q (.ref l) H2)\/(J.go i H2/\∀x H3,J.yld i H2 x H3->g x τ H3 λτ4 H4=>tc τ4 H4 λb H5=>
   if b=true then te τ4 H5 λy H6=>H6 l=some (.lst ys)/\ys.length < sizeLine/\∃m',m' < m/\W (i + 1) m' (ys ++ [y]) τ4 (upd H6 l (.lst (ys ++ [y])))
   else ∃m',m' < m/\W (i + 1) m' ys τ4 H5)
def tComp (ρ:List (Option Nat)) (wi:TI) (g:TG) (tc:TT) (te:TE):TE:=λσ H Q=>wi σ H λJ H1=>∀l,H1 l=none->YBD J g tc te Q l (YCU ρ σ) H1
theorem YDj {prog:Program}{w:World}{A:Around}{R:Result->Shared->Prop}{s:Shared}{elt target iter:Expr}{ifs:List Expr}{scope:Scope}{pos:Pos}{it acc:Value}{env:Env} (Iv:Nat->Shared->Prop)
  (turn:∀n s,Iv n s->wpAny (model prog w) A (pyNext it) (λr s1=>match r with
   |none=>R (.ok .next) s1
   |some v=>wpAny (model prog w) A (letOwnedTupleGo target it v) (λ_ pK=>wpAny (model prog w) A (assign target env v) (λ_ s2=>
     wpAny (model prog w) A (forIn ifs true λc r=>if r=true then do let ok <-isTrue c env (eval c env);pure (ForInStep.yield ok) else pure (ForInStep.yield r)) (λok s3=>
      if ok=true then wpAny (model prog w) A (eval elt env) (λx s4=>
       wpAny (model prog w) A (call (.builtin "list.append") [acc,x]) (λ_ s5=>∃m,m < n/\Iv m s5) (λ_ _=>False) s4) (λ_ _=>False) s3
      else ∃m,m < n/\Iv m s3) (λ_ _=>False) s2) (λ_ _=>False) pK) (λ_ _=>False) s1) (λ_ _=>False) s)
  (n:Nat) (h:Iv n s):codeAny (model prog w) A (.compLoop (.ListComp elt [⟨target,iter,ifs,0⟩] scope pos) 0 it acc env) R s:=by
 refine codeAny_loop rfl Iv (λn s hI=>?_) n h;show wpAny _ A ((compTurn (.ListComp elt [⟨target,iter,ifs,0⟩] scope pos) 0 it acc env).onRaise (λx=>do noteFrame x env;theTreesLotGoes x)) _ _ s;refine wpAny_noted ?_;rw[compTurn_list];have no:∀{P:Value->Shared->Prop} (e:Value) (s':Shared),False->P e s':=λ_ _ z=>z.elim
 refine YJU (wpAny_standAt (YJU (wpAny_mono (turn n s hI) (λr s1 h1=>?_) no)));cases r with
 |none=>exact YJm h1
 |some v=>
  refine YJU (wpAny_mono h1 (λ_ pK h1'=>?_) no);refine YJU (wpAny_mono h1' (λ_ s2 h2=>YJU (wpAny_mono h2 (λok s3 h3=>?_) no)) no);cases ok with
  |false=>exact YJm ⟨U,h3⟩
  |true=>exact YJU (YJU (wpAny_mono h3 (λx s4 h4=>YJU (wpAny_mono h4 (λ_ s5 h5=>YJm (YJm ⟨U,h5⟩)) no)) no))
section
variable {X:Cx}{elt tg iter:Expr}{ifs:List Expr}{scope:Scope}{cl:List (Str×Addr)}{N:List Str}{ρ:List (Option Nat)}{pos:Pos}{wi:TI}{g:TG}{tc:TT}{te:TE}
structure Yb (X:Cx) (N:List Str) (ρ:List (Option Nat)) (scope:Scope) (cl:List (Str×Addr)):Prop where
 clos:closureFor scope X.env=pure cl
 nocell:∀y∈scope.names,y.2≠.cell
 kind:scope.kind=.function
 loc:∀y∈scope.names,y.2=.local->scope.names.lookup y.1=some .local
 sub:∀x c,cl.lookup x=some c->X.env.cells.lookup x=some c
 has:∀x,((relabel scope X.env).names.lookup x=some .cell\/(relabel scope X.env).names.lookup x=some .free)->∃c,cl.lookup x=some c
 len:ρ.length=N.length
 from_:∀(i j:Nat) (x:Str),N[i]?=some x->ρ[i]?=some (some j)->X.N[j]?=some x/\(X.env.kindOf x=some .cell\/X.env.kindOf x=some .free)/\((relabel scope X.env).names.lookup x=some .cell\/(relabel scope X.env).names.lookup x=some .free)
theorem YIK {ρ:List (Option Nat)}{σ:St}{i:Nat}{v:V} (h:(YCU ρ σ)[i]?=some (some v)):∃j,ρ[i]?=some (some j)/\σ[j]?=some (some v):=by
 unfold YCU at h;rw[YJG]at h;cases e:ρ[i]? with
 |none=>rw[e]at h;cases h
 |some o=>
  rw[e]at h;cases o with
  |none=>cases h
  |some j=>
   refine⟨j,U,?_⟩;simp only[Option.map_some,Option.bind_some,Option.some.injEq]at h;cases e2:σ[j]? with
   |none=>rw[e2]at h;cases h
   |some w=>
    rw[e2]at h;have h':w=some v:=h;rw[h']
theorem YE6 {pins:List (Addr×Obj)}{σ:St}{H:Hp}{s s':Shared}{fp:List Addr}{h₁:Heap} (S:Yb X N ρ scope cl) (I:Inv X pins σ H s) (hf:∀b∈fp,YAF X pins H b)
  (hlt:∀b∈fp,b < s.heap.objs.size) (hns:h₁.Ns s.heap.objs.size (λ_=>none)) (tE:∀b o,s.heap.get? b=some o->h₁.get? b=some o) (es:s'={ s with heap:=h₁ }):
  Inv (Y2 X N scope cl s.heap.objs.size s H fp (X.pn ++ pins)) [] (YCU ρ σ) H s':=by
 subst es;have notStk:∀b,b≠X.env.locals->b∉X.fs->b∉frs X.stack:=λb h1 h2 hb=>by
  rcases YJK.mp (I.stkSub b hb) with z |z
  ·exact h1 z
  ·exact h2 z
 have hC:X.env.locals≠s.heap.objs.size:=YJc I.lt;refine⟨⟨I.ok.mod,S.kind,I.ok.glob,I.ok.blt,YJB _,λx y c h1 h2=>I.ok.inj x y c (S.sub x c h1) (S.sub y c h2),λx hx=>S.has x hx,λx c hx _=>absurd (show false=true from hx) YJT,I.ok.hd,I.ok.frames,.inl rfl,
  λb hb=>⟨YJc (hlt b hb),λx c h1=>(hf b hb).2.2.2.2.1 x c (S.sub x c h1)⟩,I.bs,YJR I.ok.bsz I.sz,λb o eo hb=>?_,λb hb=>notStk b (hf b hb).2.1 (hf b hb).2.2.1,I.stack,I.stkFree⟩,
  rfl,I.bare,Un.kept tE,⟨_,hns,λi x v h1 h2 h3=>?_⟩,λx c h1=>?_,I.hok.fresh (YJB _),λx c h1=>I.freeC x c (S.sub x c h1),λp hp=>?_,I.hok.kept tE,?_⟩
 ·rcases(hf b hb).2.2.2.1 with z |z
  ·exact I.ok.noex b o eo z
  ·exact absurd (YJJ (I.ok.bs b o eo).1) (Nat.not_lt.mpr z)
 ·obtain⟨j,hj,hv⟩:=YIK h2;obtain⟨n1,n2,n3⟩:=S.from_ i j x h1 hj;obtain⟨m,hn,hl⟩:=I.loc;have vis:Vis X.env.scope x:=n2.elim (λz=>.inr (.inl z)) λz=>.inr (.inr z)
  obtain⟨u,ru,lk⟩:=hl j x v n1 hv vis;refine⟨u,ru,.inr ⟨n3,?_⟩⟩;rcases lk with ⟨hk,_⟩ |⟨_,c,hc,eE⟩
  ·rcases n2 with z |z
   ·rw[z]at hk;cases hk
   ·rw[z]at hk;cases hk
  ·obtain⟨c',hc'⟩:=S.has x n3;have ec:=S.sub x c' hc';rw[hc]at ec;cases ec;obtain⟨o,ho,hd⟩:=eE;exact⟨c,hc',o,tE c o ho,hd⟩
 ·obtain⟨v,o,ho,hd⟩:=I.cell x c (S.sub x c h1);exact⟨v,o,tE c o ho,hd⟩
 ·have hp':p∈X.pn ++ pins:=by simpa using hp
  obtain⟨p1,p2,p3,p4,p5⟩:=I.pin p hp';exact⟨tE _ _ p1,p2,YJc (YJJ p1),notStk _ p3 p4,p5⟩
 ·show(YCU ρ σ).length=N.length;unfold YCU;rw[YI6];exact S.len
theorem ZJ (hc:X.calm=true) (S:Yb X N ρ scope cl) (hi:PI X tg iter wi)
  (hg:∀C s₀ H₀ ex pn,PG (Y2 X N scope cl C s₀ H₀ ex pn) tg g) (ht:∀C s₀ H₀ ex pn,PTs (Y2 X N scope cl C s₀ H₀ ex pn) ifs tc) (he:∀C s₀ H₀ ex pn,PE (Y2 X N scope cl C s₀ H₀ ex pn) elt te)
  (hs:∀x,foldedSetIterable iter X.env x=pure x:=by intro _;rfl):PE X (.ListComp elt [⟨tg,iter,ifs,0⟩] scope pos) (tComp ρ wi g tc te):=by
 intro pins s σ H Q I h;rw[eval_ListComp];refine wpAny_comprehension_free (use:=none) rfl hs S.clos S.kind S.loc (thn (hi pins s σ H _ I h) λv s1 h1=>thn h1 λitv s2 h2=>?_);obtain⟨it,fp,tn,J,H2,e,I2,T,iD,f2,q2⟩:=h2;subst e;obtain⟨W,⟨m0,w0⟩,turn⟩:=q2 _ (I2.hok.fresh (YJB _));refine wpAny_newObj_type (wpAny_newFunctionEnv S.nocell (by intro y hy;simp at hy) (λh₁ hns₁ hsb₁=>?_) S.kind);dsimp only at hns₁ hsb₁ ⊢;have I3:Inv X pins σ (upd H2 s2.heap.objs.size (.lst [])) { s2 with heap:=s2.heap.push { cls:=.type "list",dict:=none,data:=.seq ([]:List Value).toArray } }:=
  I2.laid (t':=s2.toks) (λb u eo=>YI9 _ eo) (YJB _) ⟨by simp,[],0,.nil,YJS _ rfl⟩
 generalize tG:({ s2 with heap:=s2.heap.push { cls:=.type "list",dict:=none,data:=.seq ([]:List Value).toArray } }:Shared)=s3 at I3;have rF:s2.heap.push { cls:=.type "list",dict:=none,data:=.seq ([]:List Value).toArray }=s3.heap:=by rw[<-tG]
 rw[rF]at hns₁ hsb₁ ⊢;have f3:∀b∈fp,YAF X pins (upd H2 s2.heap.objs.size (.lst [])) b:=λb hb=>by
  obtain⟨o,eo,_⟩:=T.obj _ _ iD b hb;exact⟨by rw[YN (YJc (YJJ eo))];exact(f2 b hb).1,(f2 b hb).2⟩
 have tH:∀b∈fp,b < s3.heap.objs.size:=λb hb=>by
  obtain⟨o,eo,_⟩:=T.obj _ _ iD b hb;rw[<-rF,YKZ];exact Nat.lt_succ_of_lt (YJJ eo)
 have old:∀b o,s3.heap.get? b=some o->h₁.get? b=some o:=λb o eo=>hsb₁.extBut b o (YJc (YJJ eo)) (YI9 _ eo)
 have Ic:Inv (Y2 X N scope cl s3.heap.objs.size s3 (upd H2 s2.heap.objs.size (.lst [])) fp (X.pn ++ pins)) [] (YCU ρ σ) (upd H2 s2.heap.objs.size (.lst [])) { s2 with heap:=h₁,toks:=s2.toks + ([]:List (Str×Value)).length }:=
  YE6 S I3 f3 tH hns₁ old (by rw[<-tG] <;> rfl)
 have iw:∀{pl:List (Addr×Obj)}{H':Hp},pl=[]->(∀b∈fp,H' b=none)->∀b∈fp,YAF (Y2 X N scope cl s3.heap.objs.size s3 (upd H2 s2.heap.objs.size (.lst [])) fp (X.pn ++ pins)) pl H' b:=λ{pl H'} epl hn b hb=>by
  subst epl;refine⟨hn b hb,YJc (tH b hb),λz=>?_,.inl hb,λx c h1=>(f2 b hb).2.2.2.2.1 x c (S.sub x c h1),λp hp=>(f2 b hb).2.2.2.2.2 p (by simpa using hp)⟩;rcases YJK.mp (I3.stkSub b z) with z |z
  ·exact(f2 b hb).2.1 z
  ·exact(f2 b hb).2.2.1 z
 have tK:tn 0 h₁:=T.keep _ _ _ iD λb hb o eo=>old b o (by rw[<-rF];exact YI9 _ eo)
 have loop:codeAny (model X.prog X.w) X.A (.compLoop (.ListComp elt [⟨tg,iter,ifs,0⟩] scope pos) 0 (.ref it) (.ref s2.heap.objs.size) (compEnvC scope cl s3.heap.objs.size X.env))
   (compPost (model X.prog X.w) X.A X.xe none (EP X pins σ Q) (.ref s2.heap.objs.size) s3.heap.objs.size) { s2 with heap:=h₁,toks:=s2.toks + ([]:List (Str×Value)).length }:=by
  refine YDj (λn s'=>∃i ys τ H',Inv (Y2 X N scope cl s3.heap.objs.size s3 (upd H2 s2.heap.objs.size (.lst [])) fp (X.pn ++ pins)) [] τ H' s'/\tn i s'.heap/\(∀b∈fp,H' b=none)/\W i n ys τ H') ?_ m0
   ⟨0,[],_,_,Ic,tK,λb hb=>(f3 b hb).1,w0⟩
  rintro n s4 ⟨i,ys,τ,H4,I4,st,tL,w4⟩;rcases turn i n ys τ H4 w4 with ⟨stop,qn⟩ |⟨go,step⟩
  ·refine thn (T.done (Y2 X N scope cl s3.heap.objs.size s3 (upd H2 s2.heap.objs.size (.lst [])) fp (X.pn ++ pins)) rfl rfl rfl hc i [] s4 τ H4 _ I4 (iw rfl tL) st stop) λr s5 ⟨hr,I5⟩=>?_
   subst hr;obtain⟨m5,rZ,_⟩:=I5.loc;refine⟨m5,rZ,λh' hs'=>?_⟩;have ne:∀b,b < s3.heap.objs.size->b≠s3.heap.objs.size:=λb hb=>YJc hb
   have nY:∀b o,b≠s3.heap.objs.size->s5.heap.get? b=some o->h'.get? b=some o:=λb o hb eo=>(hs'.2 b hb).trans eo
   have un:Un (frs X.stack) fp (upd H2 s2.heap.objs.size (.lst [])) H4 s3.heap h':=
    ⟨λb o eo n1 n2 n3=>nY b o (ne b (YJJ eo)) (I5.base.keep b o eo n1 n2 n3),λb o eo n1 n2 n3=>let ⟨sl,z⟩:=I5.base.slot b o eo n1 n2 n3;⟨sl,nY b _ (ne b (YJJ eo)) z⟩,
     I5.base.free,λb o eo n1=>let ⟨o',z⟩:=I5.base.there b o eo n1;⟨o',nY b _ (ne b (YJJ eo)) z⟩,I5.base.tups,I5.base.frzs,I5.base.tbls⟩
   have hok:HOk X.prog X.w H4 h':=λa o ea=>(I5.hok a o ea).stay (λb u hb eo=>nY b u (λz=>by
    have fr:H4 s3.heap.objs.size=none:=I5.free;rcases hb with rfl |hb
    ·rw[z,fr]at ea;cases ea
    ·rw[z,fr]at hb;cases hb) eo) (λ_ z=>z) λ_ _ z=>z
   have I6:Inv X pins σ H4 { s5 with heap:=h' }:=I3.call' (s':={ s5 with heap:=h' }) (ch:=fp) (show s5.os=s3.os from I5.os) un hok I5.bare λb hb=>(f3 b hb).2.2.2
     |> λz=>⟨(f3 b hb).2.2.2.1,(f3 b hb).2.1,(f3 b hb).2.2.2.2.1,(f3 b hb).2.2.2.2.2⟩
   exact⟨.ref s2.heap.objs.size,H4,I6,U,qn⟩
  ·refine thn (T.item (Y2 X N scope cl s3.heap.objs.size s3 (upd H2 s2.heap.objs.size (.lst [])) fp (X.pn ++ pins)) rfl rfl rfl hc i [] s4 τ H4 _ I4 (iw rfl tL) st go) λr s5 ⟨u,hr,h5⟩=>?_
   subst hr;refine thn h5 ?_;rintro _ s6 ⟨x,H6,I6,r6,y6,iY,uL⟩;have I6':=I6.pinned (iw rfl uL) (T.obj _ _ iY);have again:∀{s9:Shared}{τ9:St}{H9:Hp}{zs:List V}{m':Nat},Inv (Y2 X N scope cl s3.heap.objs.size s3 (upd H2 s2.heap.objs.size (.lst [])) fp (X.pn ++ pins)) ([] ++ YA6 fp s6.heap) τ9 H9 s9->m' < n->W (i + 1) m' zs τ9 H9->
     ∃m,m < n/\∃i ys τ H',Inv (Y2 X N scope cl s3.heap.objs.size s3 (upd H2 s2.heap.objs.size (.lst [])) fp (X.pn ++ pins)) [] τ H' s9/\tn i s9.heap/\(∀b∈fp,H' b=none)/\W i m ys τ H':=λ{s9 τ9 H9 zs m'} I9 hm w9=>by
    refine⟨m',hm,i + 1,zs,τ9,H9,I9.unpinned,T.keep _ _ _ iY λb hb o eo=>(I9.pin (b,o) (YJX _ (YJX _ (Zl hb eo)))).1,λb hb=>?_,w9⟩;obtain⟨o,eo,d⟩:=T.obj _ _ iY b hb;exact(I9.pin (b,o) (YJX _ (YJX _ (Zl hb eo)))).2.1
   refine thn (hg _ _ _ _ _ _ s6 τ H6 x u _ I6' r6 (step x H6 y6)) λ_ s7 ⟨τ7,H7,I7,q7⟩=>?_
   refine thn (ht _ _ _ _ _ _ s7 τ7 H7 _ I7 q7) λok s8 ⟨H8,I8,q8⟩=>?_
   cases ok with
   |false=>
    rw[if_neg YJT]at q8 ⊢;obtain⟨m',hm,w9⟩:=q8;exact again I8 hm w9
   |true=>
    rw[if_pos rfl]at q8 ⊢;refine thn (he _ _ _ _ _ _ s8 τ7 H8 _ I8 q8) ?_;rintro y s9 ⟨z,H9,I9,r9,uM,uN,m',hm,w9⟩;refine thn (Z4 _ s9 τ7 H9 (.ref s2.heap.objs.size) [z] (.ref s2.heap.objs.size) [y] (λ_ H'=>H'=upd H9 s2.heap.objs.size (.lst (ys ++ [z]))) I9 rfl (.cons r9 .nil) ⟨_,ys,z,U,U,uM,uN,U⟩) λ_ yJ ⟨_,H10,I10,_,e10⟩=>?_
    subst e10;exact again I10 hm w9
 exact codeAny_compStart_list loop (T.self _ 0 _ _ _ tK loop)
end
end L2
namespace L2
open PySem PySem.Spec PyProof.Rows
theorem Yb.plain {X:Cx}{N:List Str}{ρ:List (Option Nat)}{scope:Scope} (hk:scope.kind=.function) (hn:∀y∈scope.names,y.2≠.cell/\y.2≠.free)
  (hl:∀y∈scope.names,y.2=.local->scope.names.lookup y.1=some .local) (hlen:ρ.length=N.length) (hρ:∀o∈ρ,o=none):Yb X N ρ scope []:=by
 have tM:(relabel scope X.env).names=scope.names:=by
  unfold relabel;refine map_eq_self λy hy=>?_
  obtain⟨n,k⟩:=y;have hf:(k == NameKind.free)=false:=by
   have:=(hn _ hy).2;cases k <;> first |rfl |exact absurd rfl this
  show(if (k == NameKind.free && X.env.scope.kind == .function && X.env.kindOf n == some .cell)=true then (n,NameKind.cell) else (n,k))=(n,k);rw[hf];rfl
 refine⟨closureFor_none λy hy=>(hn y hy).2,λy hy=>(hn y hy).1,hk,hl,λx c h=>(by cases h),λx h=>?_,hlen,λi j x _ h=>?_⟩
 ·rw[tM]at h;rcases h with h |h
  ·exact absurd rfl (hn _ (PySem.mem_of_lookup h)).1
  ·exact absurd rfl (hn _ (PySem.mem_of_lookup h)).2
 ·have:=hρ _ (YJF h);cases this
theorem YE7 {x:Str}{te:TE}{Q:VK}{H:Hp}{l:Addr}{τ:St} (f:Nat->V) (hl:H l=none) (hτ:0 < τ.length) (hz:x.cps.size<=sizeLine)
  (ht:∀(τ':St) (c:Nat) (H':Hp) (R:VK),τ'[0]?=some (some (.str ⟨#[c]⟩))->c∈x.cps.toList->R (f c) H'->te τ' H' R) (hq:Q (.ref l) (upd H l (.lst (x.cps.toList.map f)))):
  YBD (Its x) (Yu 0) tYes te Q l τ H:=by
 refine⟨λi m ys τ' H2=>m=x.cps.size - i/\i<=x.cps.size/\ys=(x.cps.toList.take i).map f/\0 < τ'.length/\H2=upd H l (.lst ys),⟨x.cps.size,by simp,YJh _,by simp,hτ,U⟩,?_⟩;rintro i m ys τ' H2 ⟨rfl,hi,rfl,hτ',rfl⟩
 by_cases hlt:i < x.cps.size
 ·refine .inr ⟨hlt,λv H3 hy=>?_⟩;obtain⟨eH,c,hc,rfl⟩:=hy;subst eH;have hc':x.cps.toList[i]?=some c:=by simpa using hc
  show te _ _ _;refine ht _ c _ _ ?_ (YJF hc') ?_
  ·rw[YKH hτ']
  ·have uO:(x.cps.toList.take (i + 1)).map f=(x.cps.toList.take i).map f ++ [f c]:=by
    rw[YKE,hc',YJj];rfl
   refine⟨YD,?_,x.cps.size - (i + 1),by lia,U,hlt,uO.symm,by rw[YJl];exact hτ',by rw[X3]⟩;rw[YI6,YJ6];have:x.cps.toList.length=x.cps.size:=by simp
   lia
 ·have ei:i=x.cps.size:=by lia
  subst ei;refine .inl ⟨U,?_⟩;have:x.cps.toList.take x.cps.size=x.cps.toList:=by
   apply YKA;simp
  rw[this];exact hq
end L2
namespace L2
open PySem PySem.Spec PyProof.Rows
def J6 (cs:List (Str×Addr)):List (Str×NameKind)->List (Str×Addr)->List (Str×Addr)
 |[],acc=>acc
 |y :: r,acc=>J6 cs r (if y.2 == .free then (y.1,(cs.lookup y.1).getD 0) :: acc else acc)
theorem YDk (cs:List (Str×Addr)):∀(names:List (Str×NameKind)) (acc:List (Str×Addr)),(∀p∈acc,p.2=(cs.lookup p.1).getD 0)->∀p∈J6 cs names acc,p.2=(cs.lookup p.1).getD 0
 |[],acc,h=>h
 |y :: r,acc,h=>by
  unfold J6;refine YDk cs r _ ?_;split
  ·intro p hp;rcases YJK.mp hp with rfl |hp
   ·rfl
   ·exact h p hp
  ·exact h
theorem YDl (cs:List (Str×Addr)):∀(names:List (Str×NameKind)) (acc:List (Str×Addr)),∀p∈J6 cs names acc,p∈acc\/∃y∈names,y.1=p.1/\y.2=.free
 |[],acc,p,hp=>.inl hp
 |y :: r,acc,p,hp=>by
  unfold J6 at hp;rcases YDl cs r _ p hp with h |⟨z,hz,h⟩
  ·split at h
   ·rename_i hy
    rcases YJK.mp h with rfl |h
    ·refine .inr ⟨y,YJI,U,?_⟩;cases hk:y.2 <;> rw[hk]at hy <;> first |rfl |cases hy
    ·exact .inl h
   ·exact .inl h
  ·exact .inr ⟨z,YJD _ hz,h⟩
theorem YDm (cs:List (Str×Addr)):∀(names:List (Str×NameKind)) (acc:List (Str×Addr)),∀p∈acc,p∈J6 cs names acc
 |[],acc,p,hp=>hp
 |y :: r,acc,p,hp=>by
  unfold J6;refine YDm cs r _ p ?_;split
  ·exact YJD _ hp
  ·exact hp
theorem YDn (cs:List (Str×Addr)):∀(names:List (Str×NameKind)) (acc:List (Str×Addr)),∀y∈names,y.2=.free->(y.1,(cs.lookup y.1).getD 0)∈J6 cs names acc
 |[],acc,y,hy,_=>absurd hy (by simp)
 |z :: r,acc,y,hy,hf=>by
  unfold J6;rcases YJK.mp hy with rfl |hy
  ·refine YDm cs r _ _ ?_;rw[if_pos (by rw[hf];rfl)];exact YJI
  ·exact YDn cs r _ y hy hf
theorem YAK:∀{l:List (Str×Addr)}{x:Str}{c:Addr},(x,c)∈l->∃d,l.lookup x=some d
 |[],_,_,h=>absurd h (by simp)
 |(n,k) :: r,x,c,h=>by
  rw[List.lookup_cons];cases hx:x == n with
  |true=>exact⟨k,U⟩
  |false=>
   rcases YJK.mp h with e |h
   ·cases e;simp at hx
   ·exact YAK h
theorem YDG {scope:Scope}{env:Env} (h:∀y∈scope.names,y.2=.free->∃c,env.cells.lookup y.1=some c):closureFor scope env=pure (J6 env.cells scope.names []):=by
 have go:∀(names:List (Str×NameKind)) (acc:List (Str×Addr)),(∀y∈names,y.2=.free->∃c,env.cells.lookup y.1=some c)->
   (forIn (m:=Sem) names acc (λx r=>if (x.2 == NameKind.free)=true then do let c <-cellOf env x.1;pure (ForInStep.yield ((x.1,c) :: r)) else pure (ForInStep.yield r)))=pure (J6 env.cells names acc):=by
  intro names
  induction names with
  |nil=>intro acc _;rfl
  |cons y r ih=>
   intro acc hy;rw[List.forIn_cons];unfold J6
   by_cases hf:(y.2 == NameKind.free)=true
   ·have hf':y.2=.free:=by cases hk:y.2 <;> rw[hk]at hf <;> first |rfl |cases hf
    obtain⟨c,hc⟩:=hy y YJI hf';have e:cellOf env y.1=pure c:=by unfold cellOf;rw[hc]
    rw[if_pos hf,if_pos hf,e,pure_bind,pure_bind,hc];exact ih _ λz hz=>hy z (YJD _ hz)
   ·rw[if_neg hf,if_neg hf,pure_bind];exact ih _ λz hz=>hy z (YJD _ hz)
 have h2:=go scope.names [] h;simp only[closureFor];refine Eq.trans (YJ2 (· >>= _) ?_) (by rw[pure_bind]);exact h2
theorem YAk (g:Str->NameKind->NameKind):∀(l:List (Str×NameKind)) (x:Str),(l.map λy=>(y.1,g y.1 y.2)).lookup x=(l.lookup x).map (g x)
 |[],_=>rfl
 |(n,k) :: r,x=>by
  rw[YJO,List.lookup_cons,List.lookup_cons];cases hx:x == n with
  |true=>
   have e:x=n:=by simpa using hx
   subst e;rfl
  |false=>exact YAk g r x
theorem Xo (scope:Scope) (env:Env) (x:Str):(relabel scope env).names.lookup x=(scope.names.lookup x).map λk=>if (k == NameKind.free && env.scope.kind == .function && env.kindOf x == some .cell)=true then .cell else k:=by
 rw[<-YAk (λn k=>if (k == NameKind.free && env.scope.kind == .function && env.kindOf n == some .cell)=true then .cell else k)];unfold relabel;congr 1;refine YJ8 λy _=>?_
 obtain⟨n,k⟩:=y;show(if (k == NameKind.free && env.scope.kind == .function && env.kindOf n == some .cell)=true then (n,NameKind.cell) else (n,k))=_;dsimp only;split <;> rfl
def YIL (N:List Str) (ρ:List (Option Nat)) (XN:List Str) (dn sn:List (Str×NameKind)):Bool:=
 (N.zip ρ).all λp=>match p.2 with
  |none=>true
  |some j=>decide (XN[j]?=some p.1) && decide (dn.lookup p.1=some .cell) && decide (sn.lookup p.1=some .free)
theorem Yb.closes {X:Cx}{N:List Str}{ρ:List (Option Nat)}{scope:Scope} (XN:List Str) (dn:List (Str×NameKind)) (hXN:X.N=XN) (uo:X.env.scope.names=dn) (hk:scope.kind=.function) (hX:X.env.scope.kind=.function) (hn:∀y∈scope.names,y.2≠.cell)
  (hfree:∀y∈scope.names,y.2=.free->dn.lookup y.1=some .cell) (eE:∀x,X.env.scope.names.lookup x=some .cell->∃c,X.env.cells.lookup x=some c) (hl:∀y∈scope.names,y.2=.local->scope.names.lookup y.1=some .local) (hlen:ρ.length=N.length)
  (ni:YIL N ρ XN dn scope.names=true):Yb X N ρ scope (J6 X.env.cells scope.names []):=by
 subst hXN uo;have kd:∀x,X.env.kindOf x=X.env.scope.names.lookup x:=λ_=>rfl
 refine⟨YDG λy hy hf=>eE _ (hfree y hy hf),hn,hk,hl,λx c h=>?_,λx h=>?_,hlen,λi j x h1 h2=>?_⟩
 ·have hm:=PySem.mem_of_lookup h;have hv:=YDk X.env.cells scope.names [] (λp hp=>absurd hp (by simp)) _ hm;rcases YDl X.env.cells scope.names [] _ hm with z |⟨y,hy,e1,e2⟩
  ·exact absurd z (by simp)
  ·obtain⟨d,hd⟩:=eE _ (hfree y hy e2);have e1':y.1=x:=e1;rw[e1']at hd;have hv':c=(X.env.cells.lookup x).getD 0:=hv;rw[hd]at hv';rw[hd,hv'];rfl
 ·rw[Xo]at h;have hfr:scope.names.lookup x=some .free:=by
   cases e:scope.names.lookup x with
   |none=>rw[e]at h;rcases h with h |h <;> cases h
   |some k=>
    rw[e]at h;cases k with
    |free=>rfl
    |cell=>exact absurd rfl (hn _ (PySem.mem_of_lookup e))
    |_=>rcases h with h |h <;> cases h
  exact YAK (YDn X.env.cells scope.names [] _ (PySem.mem_of_lookup hfr) rfl)
 ·unfold YIL at ni;rw[YJP]at ni;have hm:(x,some j)∈N.zip ρ:=by
   refine YJF (i:=i) ?_;rw[List.getElem?_zip_eq_some];exact⟨h1,h2⟩
  have h3:=ni _ hm;simp only[YJA,YJb]at h3;obtain⟨⟨a1,a2⟩,a3⟩:=h3;refine⟨a1,.inl (by rw[kd];exact a2),.inl ?_⟩;rw[Xo,a3,kd,a2,hX];rfl
end L2
namespace L2
open PySem PySem.Spec PyProof.Rows
section
variable {X:Cx}
theorem vals_bl:∀{bs:List Bool}{us:List Value}{i:Nat}{v:Value},Yi (bs.map V.bl) us->us[i]?=some v->∃b,bs[i]?=some b/\v=.bool b:=by
 intro bs us i v r e;cases e2:(bs.map V.bl)[i]? with
 |none=>
  have:=r.none_of e2;rw[this]at e;cases e
 |some x=>
  obtain⟨u,hu,ru⟩:=r.get e2;rw[hu]at e;cases e;rw[YJG]at e2;cases e3:bs[i]? with
  |none=>rw[e3]at e2;cases e2
  |some b=>
   rw[e3]at e2;have e4:V.bl b=x:=YJf e2;subst e4;exact⟨b,U,ru⟩
theorem YDH (bs:List Bool):((List.range bs.length).all λi=>(bs[i]?).getD true)=bs.all id:=by
 rw[YJ9,YJP,YJP];constructor
 ·intro h b hb;obtain⟨i,hi,rfl⟩:=YJu.mp hb;have:=h i (YKG.mpr hi);rw[YJC hi]at this;exact this
 ·intro h i hi;have hi':=YKG.mp hi;rw[YJC hi'];exact h _ (List.getElem_mem hi')
theorem YIM (hc:X.calm=true):Zr X (.builtin "all") (λxs H Q=>∃(p:Addr) (bs:List Bool),xs=[.ref p]/\SqL X.K H p (bs.map V.bl)/\Q (.bl (bs.all id)) H):=by
 intro pins s σ H xs us Q I r h;obtain⟨p,bs,rfl,hq,q⟩:=h;obtain⟨u,rfl,rx⟩:=Jo r;cases rx;obtain⟨its,rv,pl,hz⟩:=I.list hq;have hl:=pl.isList;have hlt:p < s.heap.objs.size:=by obtain⟨_,e,_⟩:=hl;exact YJJ e
 have hlen:bs.length=its.length:=by have:=rv.length;rwa [YI6]at this
 refine call_all_walk (wpAny_pyIter_list hl ?_);refine⟨s.heap.objs.size,[s.heap.objs.size,p],[s.heap.objs.size],its.toArray.size,_,_,λi=>(bs[i]?).getD true,U,Walks.list (A:=X.A.in1) (I.ok.hd hc) _ p (YJc hlt) its.toArray,
  ⟨⟨_,YJS _ rfl,U,U⟩,hl.push _⟩,λi v s' Q' E' hP hQ=>?_,λh' tk hk=>?_⟩
 ·obtain⟨b,eb,rfl⟩:=vals_bl rv (i:=i) (v:=v) (by simpa using hP);simp only[eb,Option.getD_some]at hQ;exact wpAny_truthy_bool hQ
 ·have e:((List.range its.toArray.size).all λi=>(bs[i]?).getD true)=bs.all id:=by
   rw[YJN,<-hlen];exact YDH bs
  rw[e];exact⟨.bl _,H,I.kept (t':=tk) λb o eb=>hk b o (λz=>by rw[YJa.mp z]at eb;exact YJw _ (YJJ eb)) (YI9 _ eb),U,q⟩
theorem YCV:∀{ys:List Str}{us:List Value},Yi (ys.map V.str) us->StrsAre us ys
 |[],_,.nil=>.nil
 |_ :: _,_,.cons ⟨t,e⟩ r=>by subst e;exact .cons _ _ (YCV r)
def rJoin (K:W.Frag):V->List V->Hp->VK->Prop:=λx vs H Q=>∃(z:Str) (p:Addr) (ys:List Str),x=.str z/\vs=[.ref p]/\SqL K H p (ys.map V.str)/\(ys.map (·.length)).sum + ys.length * z.length<=16777216/\Q (.str (Txt.join z ys)) H
theorem mt_join:MtR X "str.join" (rJoin X.K):=by
 intro pins s σ H x xs v us Q I rx rs h;obtain⟨z,p,ys,rfl,rfl,hq,hz,q⟩:=h;obtain⟨t,rfl⟩:=rx;obtain⟨u,rfl,ru⟩:=rs.one;cases ru;obtain⟨its,rv,pl,_⟩:=I.list hq;exact join_list pl.isList (by simpa using YCV rv) hz λt' k=>⟨.str _,H,I.tok _,⟨_,U⟩,q⟩
theorem YIN:SlR X (λx lo hi H Q=>∃z,x=.str z/\z.length<=sizeLine/\Q (.str (Txt.slice z lo hi)) H):=by
 intro pins s σ H x v vl vu lo hi sl Q I rx hs pl pu h;obtain⟨z,rfl,hz,q⟩:=h;obtain⟨t,rfl⟩:=rx;refine⟨"str",_,F.slot_str_getitem.lookup,typeIs_str _ _ _,?_⟩;have fin:∀(t':Tok) (k:Nat),EP X pins σ Q (.str (Txt.slice z lo hi) t') { s with toks:=k }:=λt' k=>⟨.str _,H,I.tok _,⟨_,U⟩,q⟩
 obtain⟨o,ho,hc,hd⟩:=hs;cases pl with
 |none=>
  cases pu with
  |none=>exact wpAny_getItem_str_slice (l:=none) (u:=none) (st:=none) ⟨o,ho,hc,hd⟩ rfl (post_val_or_str ⟨YJR (Txt.slice_le z _ _) hz,fin⟩)
  |int j uj=>exact wpAny_getItem_str_slice (l:=none) (u:=some (j,uj)) (st:=none) ⟨o,ho,hc,hd⟩ rfl (post_val_or_str ⟨YJR (Txt.slice_le z _ _) hz,fin⟩)
 |int i ui=>
  cases pu with
  |none=>exact wpAny_getItem_str_slice (l:=some (i,ui)) (u:=none) (st:=none) ⟨o,ho,hc,hd⟩ rfl (post_val_or_str ⟨YJR (Txt.slice_le z _ _) hz,fin⟩)
  |int j uj=>exact wpAny_getItem_str_slice (l:=some (i,ui)) (u:=some (j,uj)) (st:=none) ⟨o,ho,hc,hd⟩ rfl (post_val_or_str ⟨YJR (Txt.slice_le z _ _) hz,fin⟩)
theorem X6:OpR X (compareOp .LtE) (λx y H Q=>∃i j,x=.str i/\y=.str j/\Q (.bl (!decide (j.cps.toList < i.cps.toList))) H):=by
 intro pins s σ H x y v u Q I rx ry h;obtain⟨i,j,rfl,rfl,q⟩:=h;obtain⟨t,rfl⟩:=rx;obtain⟨t',rfl⟩:=ry;exact PySem.P.le_str (Yn I q rfl)
def clsV:V->Option Value
 |.ty n=>some (.type n)
 |.ref a=>some (.ref a)
 |_=>none
theorem YIO {c:V}{u w:Value} (h:clsV c=some u) (r:Ym c w):w=u:=by
 cases c with
 |ty n=>cases h;exact r
 |ref a=>cases h;exact r
 |_=>cases h
theorem YIP:Zr X (.builtin "isinstance") (λxs H Q=>∃x c t u b,xs=[x,c]/\YAT X.K H x t/\clsV c=some u/\PySem.W.kitOne X.K t u=some b/\Q (.bl b) H):=by
 intro pins s σ H xs us Q I r h;obtain⟨x,c,t,u,b,rfl,ty,rc,e,q⟩:=h;obtain⟨v,w,rfl,rv,k_⟩:=vals2 r;have eu:w=u:=YIO rc k_;subst eu;exact YHJ I rv ty e λtk=>⟨.bl b,H,I.tok tk,U,q⟩
end
def YCW:HO->Bool
 |.dT _=>false
 |.frz _ (.dT _)=>true
 |.frz _ u=>YCW u
 |_=>true
theorem Yy.less {P:Program}{w:World}{H H':Hp}{h h':Heap}{a:Addr}{o:HO} (hp:YCW o=true) (x:Yy P w H' h' a o) (y:Yy P w H h a o):Yy P w H h' a o:=by
 induction o with
 |dT kvs=>cases hp
 |ins C dx fs=>exact⟨y.1,x.2⟩
 |frz ob u ih=>
  cases u with
  |dT kvs=>
   obtain⟨z1,z2,xs,z3,o,es,ep,z4,z5⟩:=y.2;have e:o=ob:=by
    have:=y.1;rw[z4]at this;exact YJf this
   subst e;exact⟨x.1,z1,z2,xs,z3,o,es,ep,x.1,z5⟩
  |_=>exact⟨x.1,ih hp x.2 y.2⟩
 |lst xs=>exact x
 |tup xs=>exact x
 |dK kvs=>exact x
 |set S n=>exact x
 |own z=>exact x
 |xd fs=>exact x
 |rng lo hi=>exact x
 |tbl ps=>exact x
 |met f z=>exact x
 |ext φ=>exact x
section
variable {X:Cx}{pins:List (Addr×Obj)}{σ:St}{H H':Hp}{s s':Shared}
theorem Inv.less (hp:∀a o,H a=some o->YCW o=true) (I:Inv X pins σ H s) (I':Inv X pins σ H' s') (sm:YI H H'):Inv X pins σ H s':=
 ⟨I.ok,I'.os,I'.bare,⟨I'.base.keep,I'.base.slot,I.base.free,I'.base.there,I.base.tups,I.base.frzs,I.base.tbls⟩,I'.loc,I'.cell,I.free,I.freeC,λp gB=>⟨(I'.pin p gB).1,(I.pin p gB).2⟩,
  λa o ea=>(I'.hok a o (sm a o ea)).less (hp a o ea) (I.hok a o ea),I.len⟩
def YJ (H:Hp):Prop:=∀a o,H a=some o->YCW o=true
theorem YJ.upd {H:Hp}{a:Addr}{o:HO} (h:YJ H) (ho:YCW o=true):YJ (upd H a o):=λb u e=>by
 by_cases hb:b=a
 ·subst hb;rw[YD]at e;cases e;exact ho
 ·rw[YN hb]at e;exact h b u e
inductive YIQ (t:TE) (σ:St) (H:Hp) (Q:VK):Prop where
 |mk (aQ:YJ H) (aR:t σ H λv H'=>YI H H'/\Q v H):YIQ t σ H Q
def tPure (t:TE):TE:=λσ H Q=>YIQ t σ H Q
theorem X7 {e:Expr}{t:TE} (h:PE X e t):PE X e (tPure t):=by
 intro pins s σ H Q I ⟨hp,hw⟩;exact thn (h pins s σ H _ I hw) λv s1 ⟨x,H1,I1,r1,sm,q⟩=>⟨x,H,I.less hp I1 sm,r1,q⟩
end
end L2
namespace L2
open PySem PySem.Spec PyProof.Rows
section
variable {prog:Program}{w:World}{A:Around}{E:Value->Shared->Prop}{s:Shared}{K:W.Frag}{e C:Addr}
end
section
variable {X:Cx}
end
end L2
namespace L2
open PySem PySem.Spec PyProof.Rows
section
variable {X:Cx} (K:W.Frag) (hK:X.K=K)
include hK
theorem YU:IxR X (rIxL K):=by subst hK;exact ix_list
theorem YZ:IxR X (rIxT K):=by subst hK;exact ix_tup
theorem YCX:SlR X (rSlL K):=by subst hK;exact sl_list
theorem Yc:Zr X (.builtin "len") (λxs H Q=>∃p ys,xs=[.ref p]/\(SqL K H p ys\/SqT K H p ys)/\Q (.int ys.length) H):=by subst hK;exact YEM
theorem YDI:Zr X (.type "list") (λxs H Q=>∃p ys,xs=[.ref p]/\(SqL K H p ys\/SqT K H p ys)/\∀l,H l=none->Q (.ref l) (upd H l (.lst ys))):=by subst hK;exact YEN
theorem Xp:Zr X (.type "tuple") (λxs H Q=>∃p ys,xs=[.ref p]/\((SqL K H p ys/\∀l,H l=none->Q (.ref l) (upd H l (.tup ys)))\/(SqT K H p ys/\Q (.ref p) H))):=by subst hK;exact YDF
theorem JS (hc:X.calm=true):Zr X (.builtin "all") (λxs H Q=>∃(p:Addr) (bs:List Bool),xs=[.ref p]/\SqL K H p (bs.map V.bl)/\Q (.bl (bs.all id)) H):=by subst hK;exact YIM hc
theorem ZT:Zr X (.builtin "isinstance") (λxs H Q=>∃x c t u b,xs=[x,c]/\YAT K H x t/\clsV c=some u/\PySem.W.kitOne K t u=some b/\Q (.bl b) H):=by subst hK;exact YIP
theorem J7:MtR X "str.join" (rJoin K):=by subst hK;exact mt_join
theorem ZK {tg l:Expr}{tl:TE} (hl:PE X l tl):PI X tg l (iList K tl):=by subst hK;exact pi_list hl
theorem X8 {tg l:Expr}{tl:TE} (hl:PE X l tl):PI X tg l (iTup K tl):=by subst hK;exact pi_tup hl
theorem YHQ {a:Expr}{ta:TE} (ha:PE X a ta) (he:∀whole,isTrue a X.env whole=(do let v <-whole;standAt a.pos;holding [v] (truthy v))):
  PT X a (λσ H Q=>ta σ H λx H'=>∃k,TruV K x H' k/\Q k H'):=by subst hK;exact YH1 ha he
theorem YEQ {es:List Expr}{k:Nat}{t:TGs}{n:Nat}{pos:Pos} (hc:X.calm=true) (h:PGs X es t)
  (hn:(assignEach es X.env).length=n:=by rfl) (hst:(assignEach es X.env).findIdx? (·.1)=none:=by rfl):PG X (.Tuple es k pos) (gTup K n t):=by subst hK;exact pg_tup hc h hn hst
variable {o e:Expr}{es:List Expr}{to:TE}{t:TA}{name:Str}{bZ aU:Pos}{T id:String}{r:V->List V->Hp->VK->Prop}
theorem YGc (pa:PlainAttrs T) (slot:Slot T name id) (rB:typeOf (.builtin id)=pure (.type "method_descriptor")) (hm:MtR X id r) (ho:PE X o to)
  (iz:attributeBase o name X.env (eval o X.env)=eval o X.env:=by rfl) (iB:(bZ.endLine == aU.line)=true:=by rfl):PE X (.Call (.Attribute o name bZ) [] [] aU) (tBM0 K T r to):=by
 subst hK;exact pe_bm0 pa slot rB hm ho iz iB
theorem ZL (pa:PlainAttrs T) (slot:Slot T name id) (rB:typeOf (.builtin id)=pure (.type "method_descriptor")) (hm:MtR X id r) (ho:PE X o to) (ha:PA X (e :: es) t)
  (iz:attributeBase o name X.env (eval o X.env)=eval o X.env:=by rfl)
  (rC:((backTo aU (starEach (e :: es) X.env)).all (λx=>!x.1) && (backToKw aU (keywordEach [] X.env)).all (λx=>x.1.isSome)
   && decide ((e :: es).length + ([]:List Keyword).length + (if ([]:List Keyword).isEmpty then 0 else 1) < 30))=true:=by rfl)
  (iB:(bZ.endLine == aU.line)=true:=by rfl) (hs:starEach (e :: es) X.env=(false,eval e X.env) :: starEach es X.env:=by rfl) (iC:(backTo aU (starEach es X.env)).any (·.1)=false:=by rfl):
  PE X (.Call (.Attribute o name bZ) (e :: es) [] aU) (tBM K T r to t):=by
 subst hK;exact pe_bm pa slot rB hm ho ha iz rC iB hs iC
end
end L2
namespace L2
open PySem PySem.Spec PyProof.Rows
section
variable {P:Program}{w:World}{K:W.Frag}{mg:Str->Option Value}{base:Heap}
theorem Fun.okX {x qual:Str}{st:Stmt}{f:Addr}{fd:FuncData}{N ps:List Str}{k:Nat}{sp:Sp} (F:Fun K x qual st f fd) (S:YS N ps (YG st)) (len:∀vs H Q E,sp vs H Q E->vs.length=ps.length)
  (hbody:∀(aB:Value) (A:Around) (outer:List Env) (s:Shared) (H:Hp) (vs:List V) (Q:VK) (E:XK),JJ k (A.deeper (envOfC qual (YG st) s.heap.objs.size f aB))->sp vs H Q E->
   ∃t,PSs (YBA (CXo P w) P w K mg base N qual (YG st) f aB A outer s H E) (Zc st) t/\t { nx:=λ_ H'=>Q .non H',rt:=Q } (start N vs) H):Yv P w K mg base (CXo P w) (k + 1) f fd ps sp:=by
 obtain⟨oc,od,kV,doc,pm,an,aB,ct,osl,rfl,lk,hcd⟩:=F.ex;exact fn_of lk hcd S len λA outer s H vs Q E hr hsp=>hbody aB A outer s H vs Q E hr hsp
end
structure Y6 (P:Program) (w:World) (K:W.Frag) (mg:Str->Option Value) (CX:CXT) (k:Nat) (x:Str) (ps:List Str) (sp:Sp):Prop where
 ok:∃f fd,(∀base,Yv P w K mg base CX k f fd ps sp)/\mg x=some (.ref f)/\PySem.W.keepIn K (.ref f)=true/\Xh K fd ps []
theorem passX {X:Cx}:Xi (CXo X.prog X.w) X E0:=λ_ _ _ _ _ _ _ ⟨_,_,_,_,_,h⟩=>h.elim
theorem YI.upd {H:Hp}{p:Addr}{o:HO} (h:H p=none):YI H (upd H p o):=λb u e=>by rw[YN (YV e h)];exact e
theorem YI.put {H H':Hp}{p:Addr}{o:HO} (s:YI H H') (h:H p=none):YI H (L2.upd H' p o):=λb u e=>by rw[YN (YV e h)];exact s b u e
def del (H:Hp) (l:Addr):Hp:=λb=>if b=l then none else H b
theorem YI.del {H H':Hp} (s:YI H H') (l:Addr):YI (L2.del H l) (L2.del H' l):=λb o e=>by
 unfold L2.del at e ⊢;split at e
 ·cases e
 ·rw[if_neg (by assumption)];exact s b o e
theorem del_upd {H:Hp}{l:Addr}{o:HO}:L2.del (L2.upd H l o) l=L2.del H l:=by
 funext b;unfold L2.del L2.upd;split <;> rfl
theorem comp_by {J:It}{g:TG}{tc:TT}{te:TE}{Q:VK}{l:Addr}{τ:St}{H1:Hp} (n:Nat) (W:Nat->List V->St->Hp->Prop) (h0:W 0 [] τ (upd H1 l (.lst [])))
  (hgo:∀i ys τ H (N:List V->St->Hp->Prop),i < n->W i ys τ H->(∀ys τ H,W (i + 1) ys τ H->N ys τ H)->J.go i H/\∀x H3,J.yld i H x H3->g x τ H3 λτ4 H4=>tc τ4 H4 λb H5=>
   if b=true then te τ4 H5 λy H6=>H6 l=some (.lst ys)/\ys.length < sizeLine/\N (ys ++ [y]) τ4 (upd H6 l (.lst (ys ++ [y]))) else N ys τ4 H5)
  (hst:∀ys τ H,W n ys τ H->J.stop n H/\Q (.ref l) H):YBD J g tc te Q l τ H1:=by
 refine⟨λi m ys τ H=>m=n - i/\i<=n/\W i ys τ H,⟨n,by simp,YJh _,h0⟩,?_⟩;rintro i m ys τ H ⟨rfl,hi,w⟩
 by_cases hlt:i < n
 ·exact .inr (hgo i ys τ H (λys τ H=>∃m',m' < n - i/\m'=n - (i + 1)/\i + 1<=n/\W (i + 1) ys τ H) hlt w λys τ H h=>⟨n - (i + 1),by lia,U,hlt,h⟩)
 ·have ei:i=n:=by lia
  subst ei;exact .inl (hst ys τ H w)
def YBE (J:It) (n:Nat) (H:Hp) (item:Nat->V->Prop):Prop:=∀i H',YI H H'->(i < n->J.go i H'/\∀x H3,J.yld i H' x H3->H3=H'/\item i x)/\J.stop n H'
theorem ZF {K:W.Frag}{a:Addr}{xs:List V}{H:Hp} (h:SqL K H a xs):YBE (Itl K a) xs.length H λi x=>xs[i]?=some x:=λi H' s=>by
 have h':=s.seq h;exact⟨λhi=>⟨⟨xs,xs[i],h',by simp[hi]⟩,λx H3 y=>⟨y.1,y.2 xs h'⟩⟩,⟨xs,h',YJB _⟩⟩
theorem YI.seqT {K:W.Frag}{H H':Hp}{a:Addr}{xs:List V} (e:YI H H') (h:SqT K H a xs):SqT K H' a xs:=by
 rcases h with (h |⟨o,h⟩) |h
 ·exact .inl (.inl (e _ _ h))
 ·exact .inl (.inr ⟨o,e _ _ h⟩)
 ·exact .inr h
theorem YBF {K:W.Frag}{a:Addr}{xs:List V}{H:Hp} (h:SqT K H a xs):YBE (Itt K a) xs.length H λi x=>xs[i]?=some x:=λi H' s=>by
 have h':=s.seqT h;exact⟨λhi=>⟨⟨xs,xs[i],h',by simp[hi]⟩,λx H3 y=>⟨y.1,y.2 xs h'⟩⟩,⟨xs,h',YJB _⟩⟩
theorem YBh {lo:Int}{n:Nat}{H:Hp}:YBE (Itr lo n) n H λi x=>x=.int (lo + i):=λi H' s=>
 ⟨λhi=>⟨hi,λx H3 y=>y⟩,YJB _⟩
theorem Yw {J:It}{n:Nat}{item:Nat->V->Prop}{te:TE}{Q:VK}{H:Hp}{l:Addr}{τ:St} (j0:Nat) (Py:Nat->V->Hp->Prop) (hJ:YBE J n H item) (mono:∀k y H H',YI H H'->Py k y H->Py k y H') (hp:YJ H)
  (hl:H l=none) (hτ:j0 < τ.length) (hz:n<=sizeLine) (keep:St->Prop) (hk0:keep τ) (hks:∀τ' v,keep τ'->keep (τ'.set j0 v))
  (ht:∀(τ':St) (k:Nat) (x:V) (H':Hp) (R:VK),keep τ'->τ'[j0]?=some (some x)->item k x->k < n->YI H H'->YJ H'->H' l≠none->(∀y H6,YI H' H6->YJ H6->Py k y (del H6 l)->R y H6)->te τ' H' R)
  (hq:∀ys H',ys.length=n->(∀k y,ys[k]?=some y->Py k y (del H' l))->YI H H'->YJ H'->H' l=some (.lst ys)->Q (.ref l) H'):YBD J (Yu j0) tYes te Q l τ H:=by
 refine⟨λi m ys τ' H2=>m=n - i/\i<=n/\ys.length=i/\(∀k y,ys[k]?=some y->Py k y (del H2 l))/\j0 < τ'.length/\keep τ'/\YI H H2/\YJ H2/\H2 l=some (.lst ys),
  ⟨n,by simp,YJh _,U,λk y e=>by simp at e,hτ,hk0,YI.upd hl,hp.upd rfl,YD⟩,?_⟩
 rintro i m ys τ' H2 ⟨rfl,hi,hy,hP,hτ',hk',hs,hpl,hll⟩;obtain⟨hgo,hst⟩:=hJ i H2 hs
 by_cases hlt:i < n
 ·obtain⟨h1,h2⟩:=hgo hlt;refine .inr ⟨h1,λx H3 vO=>?_⟩;obtain⟨eH,hit⟩:=h2 x H3 vO;subst eH;show te _ _ _;refine ht _ i x _ _ (hks _ _ hk') ?_ hit hlt hs hpl (by rw[hll];intro z;cases z) λy H6 s6 p6 py=>?_
  ·rw[YKH hτ']
  ·have tO:H6 l=some (.lst ys):=s6 _ _ hll;refine⟨tO,by lia,n - (i + 1),by lia,U,hlt,by simp[hy],λk z e=>?_,by rw[YJl];exact hτ',hks _ _ hk',(hs.trans s6).put hl,p6.upd rfl,YD⟩;rw[del_upd]
   by_cases hkl:k < ys.length
   ·rw[YKO hkl]at e;exact mono k z _ _ (s6.del l) (hP k z e)
   ·rw[List.getElem?_append_right (by lia)]at e;have hk0:k - ys.length=0:=by
     cases hh:k - ys.length with
     |zero=>rfl
     |succ j=>rw[hh]at e;simp at e
    rw[hk0]at e;have e2:y=z:=by simpa using e
    have e3:k=i:=by lia
    subst e2 e3;exact py
 ·have ei:i=n:=by lia
  subst ei;exact .inl ⟨hst,hq ys H2 hy hP hs hpl hll⟩
end L2
namespace L2
open PySem PySem.Spec PyProof.Rows
inductive D where
 |non |bl (b:Bool) |int (i:Int) |str (x:Str) |lst (xs:List D) |tup (xs:List D) |oth
mutual
def eqD:D->D->Bool
 |.non,.non=>true
 |.bl a,.bl b=>a == b
 |.bl a,.int b=>(if a then (1:Int) else 0) == b
 |.int a,.bl b=>a == (if b then (1:Int) else 0)
 |.int a,.int b=>a == b
 |.str a,.str b=>a == b
 |.lst xs,.lst ys=>YAV xs ys
 |.tup xs,.tup ys=>YAV xs ys
 |_,_=>false
def YAV:List D->List D->Bool
 |[],[]=>true
 |x :: xs,y :: ys=>eqD x y && YAV xs ys
 |_,_=>false
end
mutual
def D.dep:D->Nat
 |.lst xs=>YE8 xs + 1
 |.tup xs=>YE8 xs + 1
 |_=>0
def YE8:List D->Nat
 |[]=>0
 |x :: xs=>max x.dep (YE8 xs)
end
mutual
def Den (H:Hp):V->D->Prop
 |v,.non=>v=.non
 |v,.bl b=>v=.bl b
 |v,.int i=>v=.int i
 |v,.str x=>v=.str x
 |v,.lst ds=>∃a xs,v=.ref a/\Rd H a (.lst xs)/\YX H xs ds
 |v,.tup ds=>∃a xs,v=.ref a/\H a=some (.tup xs)/\YX H xs ds
 |v,.oth=>∃a kvs,v=.ref a/\H a=some (.dK kvs)
def YX (H:Hp):List V->List D->Prop
 |[],[]=>True
 |v :: vs,d :: ds=>Den H v d/\YX H vs ds
 |_,_=>False
end
mutual
def D.ok:D->Bool
 |.lst xs=>okS xs
 |.tup xs=>okS xs
 |.oth=>false
 |_=>true
def okS:List D->Bool
 |[]=>true
 |x :: xs=>x.ok && okS xs
end
theorem YAl:∀{xs:List D}{d:D},okS xs=true->d∈xs->d.ok=true
 |x :: xs,d,h,hd=>by
  unfold okS at h;rw[YJA]at h;rcases YJK.mp hd with rfl |hd
  ·exact h.1
  ·exact YAl h.2 hd
theorem YF3:∀{xs:List D},(∀d∈xs,d.ok=true)->okS xs=true
 |[],_=>by unfold okS;rfl
 |x :: xs,h=>by unfold okS;rw[h x YJI,YF3 λd hd=>h d (YJD _ hd)];rfl
theorem YER:∀{xs:List D}{d:D},d∈xs->d.dep<=YE8 xs
 |x :: xs,d,h=>by
  unfold YE8;rcases YJK.mp h with rfl |h
  ·exact Nat.le_max_left _ _
  ·exact YJR (YER h) (Nat.le_max_right _ _)
mutual
theorem YE9:∀d:D,d.ok=true->eqD d d=true
 |.non,_=>by unfold eqD;rfl
 |.bl b,_=>by unfold eqD;exact beq_self_eq_true b
 |.int i,_=>by unfold eqD;exact beq_self_eq_true i
 |.str x,_=>by unfold eqD;exact beq_self_eq_true x
 |.lst xs,h=>by unfold eqD;unfold D.ok at h;exact YBG xs h
 |.tup xs,h=>by unfold eqD;unfold D.ok at h;exact YBG xs h
 |.oth,h=>by unfold D.ok at h;cases h
theorem YBG:∀ds:List D,okS ds=true->YAV ds ds=true
 |[],_=>by unfold YAV;rfl
 |d :: ds,h=>by
  unfold okS at h;rw[YJA]at h;unfold YAV;rw[YE9 d h.1,YBG ds h.2];rfl
end
theorem eqD_lst (xs ys:List D):eqD (.lst xs) (.lst ys)=YAV xs ys:=by unfold eqD;rfl
theorem eqD_tup (xs ys:List D):eqD (.tup xs) (.tup ys)=YAV xs ys:=by unfold eqD;rfl
theorem YCY:∀{xs ys:List D},xs.length≠ys.length->YAV xs ys=false
 |[],[],h=>absurd rfl h
 |[],_ :: _,_=>by unfold YAV;rfl
 |_ :: _,[],_=>by unfold YAV;rfl
 |x :: xs,y :: ys,h=>by
  unfold YAV;rw[YCY (xs:=xs) (ys:=ys) λe=>h (by rw[YJY,YJY,e]),Bool.and_false]
theorem YCZ:∀{xs ys:List D},xs.length=ys.length->YAV xs ys=(List.range xs.length).all λj=>eqD (xs.getD j .non) (ys.getD j .non)
 |[],[],_=>by unfold YAV;rfl
 |[],_ :: _,h=>by cases h
 |_ :: _,[],h=>by cases h
 |x :: xs,y :: ys,h=>by
  unfold YAV;rw[YCZ (xs:=xs) (ys:=ys) (Nat.succ.inj h),YJY,List.range_succ_eq_map,List.all_cons,List.all_map];rfl
section
variable {H H':Hp}
theorem YX.len:∀{xs:List V}{ds:List D},YX H xs ds->xs.length=ds.length
 |[],[],_=>rfl
 |[],_ :: _,h=>by unfold YX at h;exact h.elim
 |_ :: _,[],h=>by unfold YX at h;exact h.elim
 |v :: vs,d :: ds,h=>by
  unfold YX at h;rw[YJY,YJY,YX.len h.2]
theorem YX.get:∀{xs:List V}{ds:List D}{i:Nat}{v:V},YX H xs ds->xs[i]?=some v->∃d,ds[i]?=some d/\Den H v d
 |[],_,i,v,_,e=>by simp at e
 |_ :: _,[],_,_,h,_=>by unfold YX at h;exact h.elim
 |x :: xs,d :: ds,0,v,h,e=>by
  unfold YX at h;simp at e;subst e;exact⟨d,U,h.1⟩
 |x :: xs,d :: ds,i + 1,v,h,e=>by
  unfold YX at h;exact YX.get (i:=i) h.2 (by simpa using e)
theorem YX.getD:∀{xs:List V}{ds:List D}{i:Nat}{d:D},YX H xs ds->ds[i]?=some d->∃v,xs[i]?=some v/\Den H v d
 |_,[],i,v,_,e=>by simp at e
 |[],_ :: _,_,_,h,_=>by unfold YX at h;exact h.elim
 |x :: xs,d :: ds,0,v,h,e=>by
  unfold YX at h;simp at e;subst e;exact⟨x,U,h.1⟩
 |x :: xs,d :: ds,i + 1,v,h,e=>by
  unfold YX at h;exact YX.getD (i:=i) h.2 (by simpa using e)
theorem YX.nil:YX H [] []:=by unfold YX;trivial
theorem YX.cons {v:V}{vs:List V}{d:D}{ds:List D} (h:Den H v d) (hs:YX H vs ds):YX H (v :: vs) (d :: ds):=by unfold YX;exact⟨h,hs⟩
theorem YX.append:∀{xs ys:List V}{ds es:List D},YX H xs ds->YX H ys es->YX H (xs ++ ys) (ds ++ es)
 |[],_,[],_,_,h=>h
 |[],_,_ :: _,_,h,_=>by unfold YX at h;exact h.elim
 |_ :: _,_,[],_,h,_=>by unfold YX at h;exact h.elim
 |x :: xs,ys,d :: ds,es,h,h2=>by
  unfold YX at h;exact .cons h.1 (YX.append h.2 h2)
theorem Den.lst {a:Addr}{xs:List V}{ds:List D} (h:Rd H a (.lst xs)) (hs:YX H xs ds):Den H (.ref a) (.lst ds):=by unfold Den;exact⟨a,xs,U,h,hs⟩
theorem Den.tup {a:Addr}{xs:List V}{ds:List D} (h:H a=some (.tup xs)) (hs:YX H xs ds):Den H (.ref a) (.tup ds):=by unfold Den;exact⟨a,xs,U,h,hs⟩
theorem Den.int (i:Int):Den H (.int i) (.int i):=by unfold Den;rfl
theorem Den.str (x:Str):Den H (.str x) (.str x):=by unfold Den;rfl
theorem Den.to_lst {v:V}{ds:List D} (h:Den H v (.lst ds)):∃a xs,v=.ref a/\Rd H a (.lst xs)/\YX H xs ds:=by unfold Den at h;exact h
theorem Den.to_tup {v:V}{ds:List D} (h:Den H v (.tup ds)):∃a xs,v=.ref a/\H a=some (.tup xs)/\YX H xs ds:=by unfold Den at h;exact h
theorem Den.to_int {v:V}{i:Int} (h:Den H v (.int i)):v=.int i:=by unfold Den at h;exact h
theorem Den.to_str {v:V}{i:Str} (h:Den H v (.str i)):v=.str i:=by unfold Den at h;exact h
theorem YX.strs:∀(ns:List Str),YX H (ns.map V.str) (ns.map D.str)
 |[]=>.nil
 |n :: ns=>.cons (.str n) (YX.strs ns)
theorem YI.rd {a:Addr}{u:HO} (e:YI H H') (h:Rd H a u):Rd H' a u:=by
 rcases h with h |⟨o,h⟩
 ·exact .inl (e _ _ h)
 ·exact .inr ⟨o,e _ _ h⟩
theorem Rd.inj {a:Addr}{xs ys:List V} (h:Rd H a (.lst xs)) (h':Rd H a (.lst ys)):xs=ys:=by
 rcases h with h |⟨o,h⟩ <;> rcases h' with h' |⟨o',h'⟩ <;> rw[h]at h' <;> cases h' <;> rfl
mutual
theorem Den.same (e:YI H H'):∀{v:V}{d:D},Den H v d->Den H' v d
 |_,.non,h=>by unfold Den at h ⊢;exact h
 |_,.bl _,h=>by unfold Den at h ⊢;exact h
 |_,.int _,h=>by unfold Den at h ⊢;exact h
 |_,.str _,h=>by unfold Den at h ⊢;exact h
 |_,.lst ds,h=>by
  unfold Den at h ⊢;obtain⟨a,xs,e1,e2,e3⟩:=h;exact⟨a,xs,e1,e.rd e2,YX.same e e3⟩
 |_,.tup ds,h=>by
  unfold Den at h ⊢;obtain⟨a,xs,e1,e2,e3⟩:=h;exact⟨a,xs,e1,e _ _ e2,YX.same e e3⟩
 |_,.oth,h=>by
  unfold Den at h ⊢;obtain⟨a,kvs,e1,e2⟩:=h;exact⟨a,kvs,e1,e _ _ e2⟩
theorem YX.same (e:YI H H'):∀{vs:List V}{ds:List D},YX H vs ds->YX H' vs ds
 |[],[],h=>.nil
 |[],_ :: _,h=>by unfold YX at h;exact h.elim
 |_ :: _,[],h=>by unfold YX at h;exact h.elim
 |v :: vs,d :: ds,h=>by
  unfold YX at h;exact .cons (Den.same e h.1) (YX.same e h.2)
end
end
section
variable {X:Cx}{pins:List (Addr×Obj)}{σ:St}{H:Hp}{s:Shared}
mutual
theorem Den.uniq:∀{v:V}{d d':D},Den H v d->Den H v d'->d=d'
 |v,.non,d',h,h'=>by
  unfold Den at h;subst h;cases d' with
  |non=>rfl
  |lst es=>unfold Den at h';obtain⟨_,_,z,_⟩:=h';cases z
  |tup es=>unfold Den at h';obtain⟨_,_,z,_⟩:=h';cases z
  |oth=>unfold Den at h';obtain⟨_,_,z,_⟩:=h';cases z
  |_=>unfold Den at h';cases h'
 |v,.bl b,d',h,h'=>by
  unfold Den at h;subst h;cases d' with
  |bl c=>unfold Den at h';cases h';rfl
  |lst es=>unfold Den at h';obtain⟨_,_,z,_⟩:=h';cases z
  |tup es=>unfold Den at h';obtain⟨_,_,z,_⟩:=h';cases z
  |oth=>unfold Den at h';obtain⟨_,_,z,_⟩:=h';cases z
  |_=>unfold Den at h';cases h'
 |v,.int b,d',h,h'=>by
  unfold Den at h;subst h;cases d' with
  |int c=>unfold Den at h';cases h';rfl
  |lst es=>unfold Den at h';obtain⟨_,_,z,_⟩:=h';cases z
  |tup es=>unfold Den at h';obtain⟨_,_,z,_⟩:=h';cases z
  |oth=>unfold Den at h';obtain⟨_,_,z,_⟩:=h';cases z
  |_=>unfold Den at h';cases h'
 |v,.str b,d',h,h'=>by
  unfold Den at h;subst h;cases d' with
  |str c=>unfold Den at h';cases h';rfl
  |lst es=>unfold Den at h';obtain⟨_,_,z,_⟩:=h';cases z
  |tup es=>unfold Den at h';obtain⟨_,_,z,_⟩:=h';cases z
  |oth=>unfold Den at h';obtain⟨_,_,z,_⟩:=h';cases z
  |_=>unfold Den at h';cases h'
 |v,.lst ds,d',h,h'=>by
  obtain⟨a,xs,rfl,e2,e3⟩:=h.to_lst;cases d' with
  |lst es=>
   obtain⟨b,ys,z,f2,f3⟩:=h'.to_lst;cases z;have:=e2.inj f2;subst this;rw[YX.uniq e3 f3]
  |tup es=>
   obtain⟨b,ys,z,f2,f3⟩:=h'.to_tup;cases z;rcases e2 with e2 |⟨o,e2⟩ <;> rw[e2]at f2 <;> cases f2
  |oth=>
   unfold Den at h';obtain⟨b,ys,z,f2⟩:=h';cases z;rcases e2 with e2 |⟨o,e2⟩ <;> rw[e2]at f2 <;> cases f2
  |_=>unfold Den at h';cases h'
 |v,.tup ds,d',h,h'=>by
  obtain⟨a,xs,rfl,e2,e3⟩:=h.to_tup;cases d' with
  |tup es=>
   obtain⟨b,ys,z,f2,f3⟩:=h'.to_tup;cases z;rw[e2]at f2;cases f2;rw[YX.uniq e3 f3]
  |lst es=>
   obtain⟨b,ys,z,f2,f3⟩:=h'.to_lst;cases z;rcases f2 with f2 |⟨o,f2⟩ <;> rw[e2]at f2 <;> cases f2
  |oth=>
   unfold Den at h';obtain⟨b,ys,z,f2⟩:=h';cases z;rw[e2]at f2;cases f2
  |_=>unfold Den at h';cases h'
 |v,.oth,d',h,h'=>by
  unfold Den at h;obtain⟨a,kvs,rfl,e2⟩:=h;cases d' with
  |oth=>rfl
  |lst es=>
   obtain⟨b,ys,z,f2,f3⟩:=h'.to_lst;cases z;rcases f2 with f2 |⟨o,f2⟩ <;> rw[e2]at f2 <;> cases f2
  |tup es=>
   obtain⟨b,ys,z,f2,f3⟩:=h'.to_tup;cases z;rw[e2]at f2;cases f2
  |_=>unfold Den at h';cases h'
theorem YX.uniq:∀{vs:List V}{ds es:List D},YX H vs ds->YX H vs es->ds=es
 |[],[],[],_,_=>rfl
 |[],_ :: _,_,h,_=>by unfold YX at h;exact h.elim
 |[],_,_ :: _,_,h=>by unfold YX at h;exact h.elim
 |_ :: _,[],_,h,_=>by unfold YX at h;exact h.elim
 |_ :: _,_,[],_,h=>by unfold YX at h;exact h.elim
 |v :: vs,d :: ds,e :: es,h,h'=>by
  unfold YX at h h';rw[Den.uniq h.1 h'.1,YX.uniq h.2 h'.2]
end
def tyD:D->String
 |.non=>"NoneType"
 |.bl _=>"bool"
 |.int _=>"int"
 |.str _=>"str"
 |.lst _=>"list"
 |.tup _=>"tuple"
 |.oth=>"dict"
theorem Den.ty {K:W.Frag}:∀{v:V}{d:D},Den H v d->YAT K H v (.type (tyD d))
 |_,.non,h=>by unfold Den at h;subst h;exact .non
 |_,.bl b,h=>by unfold Den at h;subst h;exact .bl b
 |_,.int b,h=>by unfold Den at h;subst h;exact .int b
 |_,.str b,h=>by unfold Den at h;subst h;exact .str b
 |_,.lst ds,h=>by
  obtain⟨a,xs,rfl,e2 |⟨o,e2⟩,_⟩:=h.to_lst
  ·exact .lst e2
  ·exact .frz e2
 |_,.tup ds,h=>by
  obtain⟨a,xs,rfl,e2,_⟩:=h.to_tup;exact .tup e2
 |_,.oth,h=>by
  unfold Den at h;obtain⟨a,kvs,rfl,e2⟩:=h;exact .dK e2
theorem YGd {ds:List D}{i:Nat}{d:D} (h:ds[i]?=some d):ds.getD i .non=d:=by
 rw[List.getD_eq_getElem?_getD,h];rfl
structure Cmp (A:Around) (s:Shared) (x y:Value) (b:Bool):Prop where
 eq:SeqAt.EqAt A s x y b
 rc:SeqAt.RcAt A s x y b
 ne:SeqAt.RcNeAt A s x y (!b)
theorem YGe {A:Around}{xs ys:List V}{ds es:List D}{its eG:List Value} (h1:YX H xs ds) (h2:YX H ys es) (r1:Yi xs its) (r2:Yi ys eG)
  (ih:∀(d d':D) (v u:V) (x y:Value),d∈ds->d'∈es->Den H v d->Den H u d'->Ym v x->Ym u y->SeqAt.EqAt A s x y (eqD d d')):
  ∀j (q1:j < its.toArray.size) (q2:j < eG.toArray.size),SeqAt.EqAt A s its.toArray[j] eG.toArray[j] (eqD (ds.getD j .non) (es.getD j .non)):=by
 intro j q1 q2;have l1:=r1.length;have l2:=r2.length;have vP:j < xs.length:=by rw[l1];simpa using q1
 have vQ:j < ys.length:=by rw[l2];simpa using q2
 obtain⟨d,hd,den⟩:=h1.get (i:=j) (YJC vP);obtain⟨d',hd',uP⟩:=h2.get (i:=j) (YJC vQ);obtain⟨u,hu,ru⟩:=r1.get (YJC vP);obtain⟨u',hu',yK⟩:=r2.get (YJC vQ);rw[YGd hd,YGd hd'];have e1:its.toArray[j]=u:=by
  have:its.toArray[j]?=some u:=by simpa using hu
  rw[Array.getElem?_eq_getElem q1]at this;exact YJf this
 have e2:eG.toArray[j]=u':=by
  have:eG.toArray[j]?=some u':=by simpa using hu'
  rw[Array.getElem?_eq_getElem q2]at this;exact YJf this
 rw[e1,e2];exact ih d d' _ _ _ _ (YJF hd) (YJF hd') den uP ru yK
theorem Xq {A:Around}{a b:Addr}{d d':D}{k:Bool} (hk:k=eqD d d') (hok:d.ok=true) (h1:Den H (.ref a) d) (h2:Den H (.ref b) d') (rc:SeqAt.RcAt A s (.ref a) (.ref b) k) (ne:SeqAt.RcNeAt A s (.ref a) (.ref b) (!k)):Cmp A s (.ref a) (.ref b) (eqD d d'):=by
 subst hk;refine⟨?_,rc,ne⟩
 by_cases hab:a=b
 ·subst hab;have:=h1.uniq h2;subst this;rw[YE9 _ hok];exact .same _
 ·exact .of_refs hab rc
theorem cmp_D (I:Inv X pins σ H s):∀(n:Nat) (A:Around) (d d':D) (v u:V) (x y:Value),d.ok=true->d'.ok=true->d.dep<=n->A.units + n < cLine->Den H v d->Den H u d'->Ym v x->Ym u y->Cmp A s x y (eqD d d'):=by
 intro n
 induction n with
 |zero=>
  intro A d d' v u x y hok hok' hn hu h h' r r';have hu':A.units < cLine:=by lia
  cases d with
  |lst ds=>unfold D.dep at hn;lia
  |tup ds=>unfold D.dep at hn;lia
  |oth=>unfold D.ok at hok;cases hok
  |non=>
   unfold Den at h;subst h;cases r;cases d' with
   |non=>unfold Den at h';subst h';cases r';unfold eqD;exact⟨.same _,.none_none,.none_none⟩
   |bl b=>unfold Den at h';subst h';cases r';unfold eqD;exact⟨.none_bool _,.none_bool _,.none_bool _⟩
   |int b=>unfold Den at h';subst h';obtain⟨t,rfl⟩:=r';unfold eqD;exact⟨.none_int _ _,.none_int _ _,.none_int _ _⟩
   |str b=>unfold Den at h';subst h';obtain⟨t,rfl⟩:=r';unfold eqD;exact⟨.none_str _ _,.none_str _ _,.none_str _ _⟩
   |lst ds=>obtain⟨a,xs,rfl,e2,_⟩:=h'.to_lst;cases r';obtain⟨_,_,p,_⟩:=I.list (.inl e2);unfold eqD;exact⟨.none_list p.isList hu',.none_list p.isList hu',.none_list p.isList hu'⟩
   |tup ds=>obtain⟨a,xs,rfl,e2,_⟩:=h'.to_tup;cases r';obtain⟨_,_,p,_⟩:=I.tuple (.inl (.inl e2));unfold eqD;exact⟨.none_tuple p hu',.none_tuple p hu',.none_tuple p hu'⟩
   |oth=>unfold D.ok at hok';cases hok'
  |bl c=>
   unfold Den at h;subst h;cases r;cases d' with
   |non=>unfold Den at h';subst h';cases r';unfold eqD;exact⟨.bool_none _,.bool_none _,.bool_none _⟩
   |bl b=>unfold Den at h';subst h';cases r';unfold eqD;exact⟨.bool_bool _ _,.bool_bool _ _,.bool_bool _ _⟩
   |int b=>unfold Den at h';subst h';obtain⟨t,rfl⟩:=r';unfold eqD;exact⟨.bool_int _ _ _,.bool_int _ _ _,.bool_int _ _ _⟩
   |str b=>unfold Den at h';subst h';obtain⟨t,rfl⟩:=r';unfold eqD;exact⟨.bool_str _ _ _,.bool_str _ _ _,.bool_str _ _ _⟩
   |lst ds=>obtain⟨a,xs,rfl,e2,_⟩:=h'.to_lst;cases r';obtain⟨_,_,p,_⟩:=I.list (.inl e2);unfold eqD;exact⟨.bool_list _ p.isList hu',.bool_list _ p.isList hu',.bool_list _ p.isList hu'⟩
   |tup ds=>obtain⟨a,xs,rfl,e2,_⟩:=h'.to_tup;cases r';obtain⟨_,_,p,_⟩:=I.tuple (.inl (.inl e2));unfold eqD;exact⟨.bool_tuple _ p hu',.bool_tuple _ p hu',.bool_tuple _ p hu'⟩
   |oth=>unfold D.ok at hok';cases hok'
  |int c=>
   unfold Den at h;subst h;obtain⟨t,rfl⟩:=r;cases d' with
   |non=>unfold Den at h';subst h';cases r';unfold eqD;exact⟨.int_none _ _,.int_none _ _,.int_none _ _⟩
   |bl b=>unfold Den at h';subst h';cases r';unfold eqD;exact⟨.int_bool _ _ _,.int_bool _ _ _,.int_bool _ _ _⟩
   |int b=>unfold Den at h';subst h';obtain⟨t,rfl⟩:=r';unfold eqD;exact⟨.int_int _ _ _ _,.int_int _ _ _ _,.int_int _ _ _ _⟩
   |str b=>unfold Den at h';subst h';obtain⟨t,rfl⟩:=r';unfold eqD;exact⟨.int_str _ _ _ _,.int_str _ _ _ _,.int_str _ _ _ _⟩
   |lst ds=>obtain⟨a,xs,rfl,e2,_⟩:=h'.to_lst;cases r';obtain⟨_,_,p,_⟩:=I.list (.inl e2);unfold eqD;exact⟨.int_list _ _ p.isList hu',.int_list _ _ p.isList hu',.int_list _ _ p.isList hu'⟩
   |tup ds=>obtain⟨a,xs,rfl,e2,_⟩:=h'.to_tup;cases r';obtain⟨_,_,p,_⟩:=I.tuple (.inl (.inl e2));unfold eqD;exact⟨.int_tuple _ _ p hu',.int_tuple _ _ p hu',.int_tuple _ _ p hu'⟩
   |oth=>unfold D.ok at hok';cases hok'
  |str c=>
   unfold Den at h;subst h;obtain⟨t,rfl⟩:=r;cases d' with
   |non=>unfold Den at h';subst h';cases r';unfold eqD;exact⟨.str_none _ _,.str_none _ _,.str_none _ _⟩
   |bl b=>unfold Den at h';subst h';cases r';unfold eqD;exact⟨.str_bool _ _ _,.str_bool _ _ _,.str_bool _ _ _⟩
   |int b=>unfold Den at h';subst h';obtain⟨t,rfl⟩:=r';unfold eqD;exact⟨.str_int _ _ _ _,.str_int _ _ _ _,.str_int _ _ _ _⟩
   |str b=>unfold Den at h';subst h';obtain⟨t,rfl⟩:=r';unfold eqD;exact⟨.str_str _ _ _ _,.str_str _ _ _ _,.str_str _ _ _ _⟩
   |lst ds=>obtain⟨a,xs,rfl,e2,_⟩:=h'.to_lst;cases r';obtain⟨_,_,p,_⟩:=I.list (.inl e2);unfold eqD;exact⟨.str_list _ _ p.isList hu',.str_list _ _ p.isList hu',.str_list _ _ p.isList hu'⟩
   |tup ds=>obtain⟨a,xs,rfl,e2,_⟩:=h'.to_tup;cases r';obtain⟨_,_,p,_⟩:=I.tuple (.inl (.inl e2));unfold eqD;exact⟨.str_tuple _ _ p hu',.str_tuple _ _ p hu',.str_tuple _ _ p hu'⟩
   |oth=>unfold D.ok at hok';cases hok'
 |succ n ih=>
  intro A d d' v u x y hok hok' hn hu h h' r r';have hu':A.units < cLine:=by lia
  have hin:A.in1.units + n < cLine:=by show A.units + 1 + n < cLine;lia
  cases d with
  |lst ds=>
   have hn':∀d∈ds,d.dep<=n:=λd hd=>by
    have h1:=YER hd;unfold D.dep at hn
    lia
   obtain⟨a,xs,rfl,e2,e3⟩:=h.to_lst;cases r;obtain⟨its,r1,p,_⟩:=I.list (.inl e2);cases d' with
   |oth=>unfold D.ok at hok';cases hok'
   |non=>unfold Den at h';subst h';cases r';unfold eqD;exact⟨.list_none p.isList hu',.list_none p.isList hu',.list_none p.isList hu'⟩
   |bl b=>unfold Den at h';subst h';cases r';unfold eqD;exact⟨.list_bool _ p.isList hu',.list_bool _ p.isList hu',.list_bool _ p.isList hu'⟩
   |int b=>unfold Den at h';subst h';obtain⟨t,rfl⟩:=r';unfold eqD;exact⟨.list_int _ _ p.isList hu',.list_int _ _ p.isList hu',.list_int _ _ p.isList hu'⟩
   |str b=>unfold Den at h';subst h';obtain⟨t,rfl⟩:=r';unfold eqD;exact⟨.list_str _ _ p.isList hu',.list_str _ _ p.isList hu',.list_str _ _ p.isList hu'⟩
   |tup es=>obtain⟨b,ys,rfl,f2,f3⟩:=h'.to_tup;cases r';obtain⟨_,_,p2,_⟩:=I.tuple (.inl (.inl f2));unfold eqD;exact⟨.list_tuple p.isList p2 hu',.list_tuple p.isList p2 hu',.list_tuple p.isList p2 hu'⟩
   |lst es=>
    have nj:=hok;have nq:=hok';unfold D.ok at nj nq;obtain⟨b,ys,rfl,f2,f3⟩:=h'.to_lst;cases r';obtain⟨eG,r2,p2,_⟩:=I.list (.inl f2);have n1:its.toArray.size=ds.length:=by rw[YJN,<-r1.length,e3.len]
    have n2:eG.toArray.size=es.length:=by rw[YJN,<-r2.length,f3.len]
    by_cases hl:ds.length=es.length
    ·have items:=YGe (A:=A.in1) e3 f3 r1 r2 λd d' v u x y hd hd' q1 q2 q3 q4=>(ih A.in1 d d' v u x y (YAl nj hd) (YAl nq hd') (hn' d hd) hin q1 q2 q3 q4).eq
     refine Xq (k:=(List.range its.toArray.size).all λj=>eqD (ds.getD j .non) (es.getD j .non)) ?_ hok h h' (.lists p.isList p2.isList (by rw[n1,n2,hl]) hu' items) (.lists p.isList p2.isList (by rw[n1,n2,hl]) hu' items);rw[n1,<-YCZ hl,eqD_lst]
    ·refine Xq (k:=false) ?_ hok h h' (.lists_lengths p.isList p2.isList (by rw[n1,n2];simpa using hl) hu') (.lists_lengths p.isList p2.isList (by rw[n1,n2];simpa using hl) hu');unfold eqD;rw[YCY hl]
  |tup ds=>
   have hn':∀d∈ds,d.dep<=n:=λd hd=>by
    have h1:=YER hd;unfold D.dep at hn
    lia
   obtain⟨a,xs,rfl,e2,e3⟩:=h.to_tup;cases r;obtain⟨its,r1,p,_⟩:=I.tuple (.inl (.inl e2));cases d' with
   |oth=>unfold D.ok at hok';cases hok'
   |non=>unfold Den at h';subst h';cases r';unfold eqD;exact⟨.tuple_none p hu',.tuple_none p hu',.tuple_none p hu'⟩
   |bl b=>unfold Den at h';subst h';cases r';unfold eqD;exact⟨.tuple_bool _ p hu',.tuple_bool _ p hu',.tuple_bool _ p hu'⟩
   |int b=>unfold Den at h';subst h';obtain⟨t,rfl⟩:=r';unfold eqD;exact⟨.tuple_int _ _ p hu',.tuple_int _ _ p hu',.tuple_int _ _ p hu'⟩
   |str b=>unfold Den at h';subst h';obtain⟨t,rfl⟩:=r';unfold eqD;exact⟨.tuple_str _ _ p hu',.tuple_str _ _ p hu',.tuple_str _ _ p hu'⟩
   |lst es=>obtain⟨b,ys,rfl,f2,f3⟩:=h'.to_lst;cases r';obtain⟨_,_,p2,_⟩:=I.list (.inl f2);unfold eqD;exact⟨.tuple_list p p2.isList hu',.tuple_list p p2.isList hu',.tuple_list p p2.isList hu'⟩
   |tup es=>
    have nj:=hok;have nq:=hok';unfold D.ok at nj nq;obtain⟨b,ys,rfl,f2,f3⟩:=h'.to_tup;cases r';obtain⟨eG,r2,p2,_⟩:=I.tuple (.inl (.inl f2));have n1:its.toArray.size=ds.length:=by rw[YJN,<-r1.length,e3.len]
    have n2:eG.toArray.size=es.length:=by rw[YJN,<-r2.length,f3.len]
    have items:=YGe (A:=A.in1) e3 f3 r1 r2 λd d' v u x y hd hd' q1 q2 q3 q4=>(ih A.in1 d d' v u x y (YAl nj hd) (YAl nq hd') (hn' d hd) hin q1 q2 q3 q4).eq
    refine Xq (k:=(List.range (min its.toArray.size eG.toArray.size)).all (λj=>eqD (ds.getD j .non) (es.getD j .non)) && its.toArray.size == eG.toArray.size) ?_ hok h h' (.tuples p p2 hu' items) (.tuples p p2 hu' items);rw[n1,n2,eqD_tup]
    by_cases hl:ds.length=es.length
    ·rw[YCZ hl,<-hl,Nat.min_self,beq_self_eq_true,Bool.and_true]
    ·rw[YCY hl,beq_eq_false_iff_ne.mpr hl,Bool.and_false]
  |oth=>unfold D.ok at hok;cases hok
  |non=>exact ih A .non d' v u x y hok hok' (by unfold D.dep;lia) (by lia) h h' r r'
  |bl b=>exact ih A (.bl b) d' v u x y hok hok' (by unfold D.dep;lia) (by lia) h h' r r'
  |int b=>exact ih A (.int b) d' v u x y hok hok' (by unfold D.dep;lia) (by lia) h h' r r'
  |str b=>exact ih A (.str b) d' v u x y hok hok' (by unfold D.dep;lia) (by lia) h h' r r'
theorem YCa (K:W.Frag) (hK:X.K=K) (hu:X.A.units + 64 < cLine):OpR X (compareOp .NotEq) (λx y H Q=>∃d d',Den H x d/\Den H y d'/\d.ok=true/\d'.ok=true/\d.dep<=64/\Q (.bl (!eqD d d')) H):=by
 subst hK;intro pins s σ H x y v u Q I rx ry h;obtain⟨d,d',h1,h2,k1,k2,hd,q⟩:=h;exact(cmp_D I 64 X.A d d' x y v u k1 k2 hd hu h1 h2 rx ry).ne X.prog X.w _ _ ⟨.bl _,H,I,U,q⟩
end
end L2
namespace L2
open PySem PySem.Spec PyProof.Rows
section
variable {X:Cx}{pins:List (Addr×Obj)}{σ:St}{H:Hp}{s:Shared}{h':Heap}
theorem Inv.turns {t':Nat}{ch:List Addr} (I:Inv X pins σ H s) (k:∀b o,b∉ch->s.heap.get? b=some o->h'.get? b=some o) (hf:∀b∈ch,YAF X pins H b):Inv X pins σ H { s with heap:=h',toks:=t' }:=by
 have nit:∀b u,H b=some u->b∉ch:=λb u e z=>by rw[(hf b z).1]at e;cases e
 refine I.step (g':=s.gens) (d':=s.drawn) (ch:=ch) (λb hb=>⟨(hf b hb).2.2.2.1,(hf b hb).2.1,(hf b hb).2.2.2.2.1,(hf b hb).2.2.2.2.2⟩) (λb o _ _ hc e _=>k b o hc e) (λb o _ _ hc e _=>⟨o.slots,k b o hc e⟩) (λ_ _ _ _ n=>n)
  (λb o hc e=>⟨o,k b o hc e⟩) (λ_ _ e=>e) (λ_ _ _ e=>e) (λb ps e=>⟨#[],by rw[e];simp⟩) (λm hm=>?_) (λb u e=>?_) I.bare
 ·obtain⟨o,es,ep,ho,r⟩:=hm;exact⟨o,es,ep,k _ o (λz=>(hf _ z).2.1 rfl) ho,r⟩
 ·refine(I.hok b u e).stay (λc v hc q=>k c v ?_ q) (λ_ q=>q) λ_ _ q=>q
  rcases hc with z |z
  ·rw[z];exact nit b u e
  ·exact nit c _ z
theorem Inv.trackT {T:Addr}{xs:List V}{its:List Value} (I:Inv X pins σ H s) (new:H T=none) (ht:IsTup s.heap T its.toArray) (rv:Yi xs its) (hz:xs.length<=sizeLine) (hs:∀o,X.s₀.heap.get? T≠some o) (hp:∀p∈X.pn ++ pins,p.1≠T):
  Inv X pins σ (upd H T (.tup xs)) s:=by
 obtain⟨ot,vR,hct,nt,hdt⟩:=id ht;have hL:X.env.locals≠T:=λz=>by
  obtain⟨m,⟨o,es,ep,ho,hd',_⟩,_⟩:=I.loc;rw[z,vR]at ho;cases ho;rw[hdt]at hd';cases hd'
 have hC:∀x c,X.env.cells.lookup x=some c->c≠T:=λx c h1 z=>by
  obtain⟨v,o,ho,hd'⟩:=I.cell x c h1;rw[z,vR]at ho;cases ho;rw[hdt]at hd';cases hd'
 refine⟨I.ok,I.os,I.bare,?_,I.loc,I.cell,by rw[YN hL];exact I.free,λx c h1=>by rw[YN (hC x c h1)];exact I.freeC x c h1,λp hp'=>?_,λa o ea=>?_,I.len⟩
 ·exact⟨I.base.keep,I.base.slot,λb o q n hx=>by rw[YN (λz=>hs o (by rw[<-z];exact q))];exact I.base.free b o q n hx,I.base.there,
   λb xs q=>by have z:=I.base.tups b xs q;rw[YN (YV z new)];exact z,λb ob u q=>by have z:=I.base.frzs b ob u q;rw[YN (YV z new)];exact z,
   λb ps q=>by obtain⟨mo,z⟩:=I.base.tbls b ps q;exact⟨mo,by rw[YN (YV z new)];exact z⟩⟩
 ·obtain⟨p1,p2,p3⟩:=I.pin p hp';exact⟨p1,by rw[YN (hp p hp')];exact p2,p3⟩
 ·by_cases ha:a=T
  ·subst ha;rw[YD]at ea;cases ea;exact⟨hz,its,rv,ht⟩
  ·rw[YN ha]at ea;exact(I.hok a o ea).stay (λ_ _ _ q=>q) (λb q=>by rw[YN (YV q new)];exact q) λb xs q=>by rw[YN (YV q new)];exact q
end
def Ite (K:W.Frag) (a:Addr):It:=
 ⟨λi H=>∃xs x,SqL K H a xs/\xs[i]?=some x,λi H v H'=>∃T,H T=none/\v=.ref T/\∀xs,SqL K H a xs->∃x,xs[i]?=some x/\H'=upd H T (.tup [.int i,x]),λi H=>∃xs,SqL K H a xs/\xs.length<=i⟩
theorem YHR {P:Program}{w:World}{K:W.Frag}{lq:List Expr}{k:Nat}{pos:Pos} (a e it:Addr):
  YEu P w K (.Tuple lq k pos) (Ite K a) [e,it] e (λi h=>(∃old,IsEnum h e it (i:Nat) old)/\h.IsListIter it a i/\e≠it) where
 mem:=by simp
 obj:=λi h st b hb=>by
  obtain⟨⟨old,he⟩,⟨o,eo,c,d⟩,_⟩:=st;rcases YJK.mp hb with rfl |hb
  ·exact⟨_,he,λv z=>by cases z⟩
  ·have eb:b=it:=by simpa using hb
   subst eb;exact⟨o,eo,λv z=>by rw[d]at z;cases z⟩
 keep:=λi h h' st k=>by
  obtain⟨⟨old,he⟩,hit,hne⟩:=st;exact⟨⟨old,k e (by simp) _ he⟩,hit.at λo x=>k it (by simp) o x,hne⟩
 item:=by
  intro X hP hw hK hc i pins s σ H E I hf st hg;subst hP hw hK;obtain⟨⟨old,he⟩,hit,hne⟩:=st;obtain⟨xs,x,hq,hx⟩:=hg;obtain⟨its,rv,p,hz⟩:=I.list hq;obtain⟨u,hu,ru⟩:=rv.get hx;refine wpAny_pyNext_enum_item he hit p.isList (x:=u) (by simpa using hu) hne λh' ho hit' hT hsz hk=>?_
  refine⟨_,U,wpAny_letOwnedTupleGo_enum (s:={ s with heap:=h',toks:=s.toks + 1 }) ho λh'' he' hs'=>?_⟩;have hlt:e < s.heap.objs.size:=YJJ he;have hTe:s.heap.objs.size≠e:=Nat.ne_of_gt hlt;have kk:∀b o,b∉[e,it]->s.heap.get? b=some o->h''.get? b=some o:=λb o hb q=>by
   have h1:b≠e:=λz=>hb (by simp[z])
   have h2:b≠it:=λz=>hb (by simp[z])
   exact(hs'.2 b h1).trans (hk b o h1 h2 q)
  have I1:Inv X pins σ H { s with heap:=h'',toks:=s.toks + 1 }:=I.turns kk hf;have hT':h''.get? s.heap.objs.size=some { cls:=.type "tuple",data:=.seq #[.int i s.toks,u] }:=(hs'.2 _ hTe).trans hT;have hfr:H s.heap.objs.size=none:=I.hok.fresh (YJB _);have I2:=I1.trackT (T:=s.heap.objs.size) (xs:=[.int i,x]) (its:=[.int i s.toks,u]) hfr ⟨_,hT',U,_,U⟩ (.cons ⟨_,U⟩ (.cons ru .nil)) (by show 2<=sizeLine;rw[sizeLine_eq];decide)
   (λo q=>absurd (YJJ q) (Nat.not_lt.mpr I.sz)) λp hp z=>absurd (YJJ (I.pin p hp).1) (by rw[z];exact YJw _)
  refine⟨.ref s.heap.objs.size,_,I2,U,⟨_,hfr,U,λys hy=>⟨x,by rw[I.list_inj hy hq];exact hx,U⟩⟩,⟨⟨_,by simpa using he'⟩,hit'.at λo q=>(hs'.2 it hne.symm).trans q,hne⟩,λb hb=>?_⟩;obtain⟨o,eo,_⟩:∃o,s.heap.get? b=some o/\True:=by
   rcases YJK.mp hb with rfl |hb
   ·exact⟨_,he,trivial⟩
   ·have eb:b=it:=by simpa using hb
    subst eb;obtain⟨o,eo,_⟩:=hit;exact⟨o,eo,trivial⟩
  rw[YN (YJc (YJJ eo))];exact(hf b hb).1
 done:=by
  intro X hP hw hK hc i pins s σ H E I hf st hg;subst hP hw hK;obtain⟨⟨old,he⟩,hit,hne⟩:=st;obtain⟨xs,hq,hx⟩:=hg;obtain⟨its,rv,p,hz⟩:=I.list hq;have hl:=rv.length;exact wpAny_pyNext_enum_end (I.ok.hd hc) he hit p.isList (Array.getElem?_eq_none (by simp;lia)) λh' eb=>⟨U,I.turns (t':=s.toks) (λb o hb q=>eb b o (λz=>hb (by simp[z])) q) hf⟩
 self:=λ_ _ _ _ _ st h=>by
  obtain⟨⟨old,he⟩,_⟩:=st;exact wpAny_pyIter_enum he h
section
variable {X:Cx}{lq:List Expr}{k:Nat}{mL:Pos}
inductive YIR (K:W.Frag) (R:It->Hp->Prop) (vs:List V) (H1:Hp):Prop where
 |mk (a:_) (aQ:vs=[.ref a]) (aR:(∃xs,Rd H1 a (.lst xs))) (bu:R (Ite K a) H1):YIR K R vs H1
def iEnum (K:W.Frag) (ta:TA):TI:=λσ H R=>ta σ H λvs H1=>YIR K R vs H1
theorem YGf (K:W.Frag) (hK:X.K=K) {a:Expr}{ta:TA}{p pos:Pos} (hg:Gl X "enumerate") (hm:X.mg "enumerate"=none) (ha:PA X [a] ta) (hs:starEach [a] X.env=[(false,eval a X.env)]:=by rfl):
  PI X (.Tuple lq k mL) (.Call (.Name "enumerate" p) [a] [] pos) (iEnum K ta):=by
 subst hK;intro pins s σ H R I h;refine Call_ (YAQ I hg hm PyProof.Rows.Boot.«enumerate» (PyProof.Rows.callWith_type1 (thn (ha pos pins s σ H _ I h) λus s1 ⟨vs,H1,I1,r1,q1⟩=>?_) hs rfl));obtain⟨l,rfl,⟨xs,hq⟩,q⟩:=q1;obtain⟨u,rfl,ru⟩:=Jo r1;cases ru;obtain⟨hz,its,n,rv,hl⟩:=(show Yy X.prog X.w H1 s1.heap l (.lst xs) from hq.ok I1.hok);refine call_enumerate_1 hl λh' he hit hsz hk=>?_
 have I2:Inv X pins σ H1 { s1 with heap:=h' }:=I1.kept (t':=s1.toks) hk;refine wpAny_pyIter_enum he ?_;refine⟨s1.heap.objs.size + 1,[s1.heap.objs.size + 1,s1.heap.objs.size],_,_,H1,U,I2,YHR l _ _,⟨⟨_,by simpa using he⟩,hit,Nat.succ_ne_self _⟩,λb hb=>?_,q⟩;rcases YJK.mp hb with rfl |hb
 ·exact I1.fpOk (YKP _) (I1.hok.fresh (YKP _))
 ·have eb:b=s1.heap.objs.size:=by simpa using hb
  subst eb;exact I1.fpOk (YJB _) (I1.hok.fresh (YJB _))
theorem YGg:∀{xs:List V}{us:List Value},xs.length=us.length->(∀(j:Nat) (x:V) (u:Value),xs[j]?=some x->us[j]?=some u->Ym x u)->Yi xs us
 |[],[],_,_=>.nil
 |[],_ :: _,h,_=>by cases h
 |_ :: _,[],h,_=>by cases h
 |x :: xs,u :: us,h,k=>.cons (k 0 x u rfl rfl) (YGg (Nat.succ.inj h) λj y v h1 h2=>k (j + 1) y v (by simpa using h1) (by simpa using h2))
theorem YIS {k:Key}{v:Value} (h:YCI k v=true):Ym (kV k) v:=by
 rcases Y3 h with ⟨i,t,rfl,rfl⟩ |⟨x,t,rfl,rfl⟩
 ·exact⟨t,U⟩
 ·exact⟨t,U⟩
theorem YCb (hc:X.calm=true):Zr X (.type "list") (λxs H Q=>∃(p:Addr) (kvs:List (Key×V)),xs=[.ref p]/\Rd H p (.dK kvs)/\∀l,H l=none->Q (.ref l) (upd H l (.lst (kvs.map λkv=>kV kv.1)))):=by
 intro pins s σ H xs us Q I r h;obtain⟨p,kvs,rfl,hq,q⟩:=h;obtain⟨u,rfl,rx⟩:=Jo r;cases rx;obtain⟨hz,lo,vs,rel,hD⟩:=YAh I.hok hq;obtain⟨ep,hat⟩:=hD.dictAt;have hlen:kvs.length=vs.length:=rel.length;refine PySem.W.kdl_call (PySem.W.kdl_dict (knd:=Y0 X.prog X.w) (kvs:=vs) (ep:=ep) lo) (I.ok.hd hc) hat (by rw[<-hlen];exact hz) λh' tk tQ c' hk hS hit=>?_
 have rv:Yi (kvs.map λkv=>kV kv.1) tQ.toList:=by
  refine YGg (by rw[YI6,hlen];exact(Array.length_toList.trans hit.1).symm) λj x u h1 h2=>?_
  obtain⟨k,y,hy,yL⟩:=hit.2 j u (by rw[<-YJ1];exact h2);have tR:=rel.keys;rw[YJG]at h1;have e1:(kvs.map (·.1))[j]?=some k:=by rw[tR,YJG,hy];rfl
  rw[YJG]at e1;cases e2:kvs[j]? with
  |none=>rw[e2]at h1;cases h1
  |some kv=>
   rw[e2]at h1 e1;have e3:kV kv.1=x:=YJf h1;have e4:kv.1=k:=YJf e1;rw[<-e3,e4];exact YIS yL
 exact⟨.ref s.heap.objs.size,_,I.laid (t':=tk) hk (YJB _) (show Yy X.prog X.w _ h' _ (.lst _) from⟨by rw[YI6];exact hz,tQ.toList,c',rv,by simpa using hS⟩),U,q _ (I.hok.fresh (YJB _))⟩
end
def YIT (J:It) (n:Nat) (H:Hp) (item:Nat->V->Hp->Prop):Prop:=∀i H',YI H H'->YJ H'->(i < n->J.go i H'/\∀x H3,J.yld i H' x H3->YI H' H3/\YJ H3/\item i x H3)/\J.stop n H'
theorem YBE.g {J:It}{n:Nat}{H:Hp}{item:Nat->V->Prop} (h:YBE J n H item):YIT J n H λi x _=>item i x:=λi H' s p=>
 ⟨λhi=>⟨((h i H' s).1 hi).1,λx H3 hy=>by obtain⟨e,it⟩:=((h i H' s).1 hi).2 x H3 hy;subst e;exact⟨YI.refl _,p,it⟩⟩,(h i H' s).2⟩
end L2
namespace L2
open PySem PySem.Spec PyProof.Rows
section
variable {X:Cx}{elt tg iter:Expr}{ifs:List Expr}{scope:Scope}{cl:List (Str×Addr)}{N:List Str}{ρ:List (Option Nat)}{pos:Pos}{wi:TI}{g:TG}{tc:TT}{te:TE}
theorem YHS (hc:X.calm=true) (S:Yb X N ρ scope cl)
  (hg:∀C s₀ H₀ ex pn,PG (Y2 X N scope cl C s₀ H₀ ex pn) tg g) (ht:∀C s₀ H₀ ex pn,PTs (Y2 X N scope cl C s₀ H₀ ex pn) ifs tc) (he:∀C s₀ H₀ ex pn,PE (Y2 X N scope cl C s₀ H₀ ex pn) elt te)
  {pins:List (Addr×Obj)}{s2:Shared}{σ:St}{H2:Hp}{it:Addr}{fp:List Addr}{tn:Nat->Heap->Prop}{J:It}{Q:VK}{RR:Value->Addr->Result->Shared->Prop} (I2:Inv X pins σ H2 s2) (T:YEu X.prog X.w X.K tg J fp it tn) (iD:tn 0 s2.heap) (f2:∀b∈fp,YAF X pins H2 b)
  (q2:∀l,H2 l=none->YBD J g tc te Q l (YCU ρ σ) H2)
  (fin:∀(l C:Addr) (s5:Shared) (H4:Hp) (m:Str->Option Value),Inv X pins σ H4 s5->YAF X pins H4 C->s5.heap.Ns C m->Q (.ref l) H4->RR (.ref l) C (.ok .next) s5):
  wpAny (model X.prog X.w) X.A (newList []) (λacc s3=>wpAny (model X.prog X.w) X.A (newFunctionEnv scope X.env.globals cl [] X.env.qual none .none (some X.env)) (λcenv s4=>
   codeAny (model X.prog X.w) X.A (.compStart (.ListComp elt [⟨tg,iter,ifs,0⟩] scope pos) 0 (.ref it) acc { cenv with scope:=relabel scope X.env }) (RR acc cenv.locals) s4) X.xe s3) X.xe s2:=by
 obtain⟨W,⟨m0,w0⟩,turn⟩:=q2 _ (I2.hok.fresh (YJB _));refine wpAny_newObj_type (wpAny_newFunctionEnv S.nocell (by intro y hy;simp at hy) (λh₁ hns₁ hsb₁=>?_) S.kind);dsimp only at hns₁ hsb₁ ⊢;have I3:Inv X pins σ (upd H2 s2.heap.objs.size (.lst [])) { s2 with heap:=s2.heap.push { cls:=.type "list",dict:=none,data:=.seq ([]:List Value).toArray } }:=
  I2.laid (t':=s2.toks) (λb u eo=>YI9 _ eo) (YJB _) ⟨by simp,[],0,.nil,YJS _ rfl⟩
 generalize tG:({ s2 with heap:=s2.heap.push { cls:=.type "list",dict:=none,data:=.seq ([]:List Value).toArray } }:Shared)=s3 at I3;have rF:s2.heap.push { cls:=.type "list",dict:=none,data:=.seq ([]:List Value).toArray }=s3.heap:=by rw[<-tG]
 rw[rF]at hns₁ hsb₁ ⊢;have f3:∀b∈fp,YAF X pins (upd H2 s2.heap.objs.size (.lst [])) b:=λb hb=>by
  obtain⟨o,eo,_⟩:=T.obj _ _ iD b hb;exact⟨by rw[YN (YJc (YJJ eo))];exact(f2 b hb).1,(f2 b hb).2⟩
 have tH:∀b∈fp,b < s3.heap.objs.size:=λb hb=>by
  obtain⟨o,eo,_⟩:=T.obj _ _ iD b hb;rw[<-rF,YKZ];exact Nat.lt_succ_of_lt (YJJ eo)
 have old:∀b o,s3.heap.get? b=some o->h₁.get? b=some o:=λb o eo=>hsb₁.extBut b o (YJc (YJJ eo)) (YI9 _ eo)
 have Ic:Inv (Y2 X N scope cl s3.heap.objs.size s3 (upd H2 s2.heap.objs.size (.lst [])) fp (X.pn ++ pins)) [] (YCU ρ σ) (upd H2 s2.heap.objs.size (.lst [])) { s2 with heap:=h₁,toks:=s2.toks + ([]:List (Str×Value)).length }:=
  YE6 S I3 f3 tH hns₁ old (by rw[<-tG] <;> rfl)
 have iw:∀{pl:List (Addr×Obj)}{H':Hp},pl=[]->(∀b∈fp,H' b=none)->∀b∈fp,YAF (Y2 X N scope cl s3.heap.objs.size s3 (upd H2 s2.heap.objs.size (.lst [])) fp (X.pn ++ pins)) pl H' b:=λ{pl H'} epl hn b hb=>by
  subst epl;refine⟨hn b hb,YJc (tH b hb),λz=>?_,.inl hb,λx c h1=>(f2 b hb).2.2.2.2.1 x c (S.sub x c h1),λp hp=>(f2 b hb).2.2.2.2.2 p (by simpa using hp)⟩;rcases YJK.mp (I3.stkSub b z) with z |z
  ·exact(f2 b hb).2.1 z
  ·exact(f2 b hb).2.2.1 z
 have tK:tn 0 h₁:=T.keep _ _ _ iD λb hb o eo=>old b o (by rw[<-rF];exact YI9 _ eo)
 have loop:codeAny (model X.prog X.w) X.A (.compLoop (.ListComp elt [⟨tg,iter,ifs,0⟩] scope pos) 0 (.ref it) (.ref s2.heap.objs.size) (compEnvC scope cl s3.heap.objs.size X.env))
   (RR (.ref s2.heap.objs.size) s3.heap.objs.size) { s2 with heap:=h₁,toks:=s2.toks + ([]:List (Str×Value)).length }:=by
  refine YDj (λn s'=>∃i ys τ H',Inv (Y2 X N scope cl s3.heap.objs.size s3 (upd H2 s2.heap.objs.size (.lst [])) fp (X.pn ++ pins)) [] τ H' s'/\tn i s'.heap/\(∀b∈fp,H' b=none)/\W i n ys τ H') ?_ m0
   ⟨0,[],_,_,Ic,tK,λb hb=>(f3 b hb).1,w0⟩
  rintro n s4 ⟨i,ys,τ,H4,I4,st,tL,w4⟩;rcases turn i n ys τ H4 w4 with ⟨stop,qn⟩ |⟨go,step⟩
  ·refine thn (T.done (Y2 X N scope cl s3.heap.objs.size s3 (upd H2 s2.heap.objs.size (.lst [])) fp (X.pn ++ pins)) rfl rfl rfl hc i [] s4 τ H4 _ I4 (iw rfl tL) st stop) λr s5 ⟨hr,I5⟩=>?_
   subst hr;obtain⟨m5,rZ,_⟩:=I5.loc;have nY:∀b o,s5.heap.get? b=some o->s5.heap.get? b=some o:=λb o eo=>eo
   have un:Un (frs X.stack) fp (upd H2 s2.heap.objs.size (.lst [])) H4 s3.heap s5.heap:=
    ⟨λb o eo n1 n2 n3=>I5.base.keep b o eo n1 n2 n3,λb o eo n1 n2 n3=>I5.base.slot b o eo n1 n2 n3,I5.base.free,λb o eo n1=>I5.base.there b o eo n1,I5.base.tups,I5.base.frzs,I5.base.tbls⟩
   have I6:Inv X pins σ H4 s5:=I3.call' (s':=s5) (ch:=fp) (show s5.os=s3.os from I5.os) un I5.hok I5.bare λb hb=>⟨(f3 b hb).2.2.2.1,(f3 b hb).2.1,(f3 b hb).2.2.2.2.1,(f3 b hb).2.2.2.2.2⟩
   have fr:H4 s3.heap.objs.size=none:=I5.free;exact fin _ _ s5 H4 m5 I6 (I3.fpOk (YJB _) fr) rZ qn
  ·refine thn (T.item (Y2 X N scope cl s3.heap.objs.size s3 (upd H2 s2.heap.objs.size (.lst [])) fp (X.pn ++ pins)) rfl rfl rfl hc i [] s4 τ H4 _ I4 (iw rfl tL) st go) λr s5 ⟨u,hr,h5⟩=>?_
   subst hr;refine thn h5 ?_;rintro _ s6 ⟨x,H6,I6,r6,y6,iY,uL⟩;have I6':=I6.pinned (iw rfl uL) (T.obj _ _ iY);have again:∀{s9:Shared}{τ9:St}{H9:Hp}{zs:List V}{m':Nat},Inv (Y2 X N scope cl s3.heap.objs.size s3 (upd H2 s2.heap.objs.size (.lst [])) fp (X.pn ++ pins)) ([] ++ YA6 fp s6.heap) τ9 H9 s9->m' < n->W (i + 1) m' zs τ9 H9->
     ∃m,m < n/\∃i ys τ H',Inv (Y2 X N scope cl s3.heap.objs.size s3 (upd H2 s2.heap.objs.size (.lst [])) fp (X.pn ++ pins)) [] τ H' s9/\tn i s9.heap/\(∀b∈fp,H' b=none)/\W i m ys τ H':=λ{s9 τ9 H9 zs m'} I9 hm w9=>by
    refine⟨m',hm,i + 1,zs,τ9,H9,I9.unpinned,T.keep _ _ _ iY λb hb o eo=>(I9.pin (b,o) (YJX _ (YJX _ (Zl hb eo)))).1,λb hb=>?_,w9⟩;obtain⟨o,eo,d⟩:=T.obj _ _ iY b hb;exact(I9.pin (b,o) (YJX _ (YJX _ (Zl hb eo)))).2.1
   refine thn (hg _ _ _ _ _ _ s6 τ H6 x u _ I6' r6 (step x H6 y6)) λ_ s7 ⟨τ7,H7,I7,q7⟩=>?_
   refine thn (ht _ _ _ _ _ _ s7 τ7 H7 _ I7 q7) λok s8 ⟨H8,I8,q8⟩=>?_
   cases ok with
   |false=>
    rw[if_neg YJT]at q8 ⊢;obtain⟨m',hm,w9⟩:=q8;exact again I8 hm w9
   |true=>
    rw[if_pos rfl]at q8 ⊢;refine thn (he _ _ _ _ _ _ s8 τ7 H8 _ I8 q8) ?_;rintro y s9 ⟨z,H9,I9,r9,uM,uN,m',hm,w9⟩;refine thn (Z4 _ s9 τ7 H9 (.ref s2.heap.objs.size) [z] (.ref s2.heap.objs.size) [y] (λ_ H'=>H'=upd H9 s2.heap.objs.size (.lst (ys ++ [z]))) I9 rfl (.cons r9 .nil) ⟨_,ys,z,U,U,uM,uN,U⟩) λ_ yJ ⟨_,H10,I10,_,e10⟩=>?_
    subst e10;exact again I10 hm w9
 exact codeAny_compStart_list loop (T.self _ 0 _ _ _ tK loop)
def tSetC (i:Nat) (te:TE):TS:=λD σ H=>te σ H λv H1=>D.nx (σ.set i (some v)) H1
theorem ps_setC {i:Nat}{y:Str}{py spos:Pos} (hN:X.N.Nodup) (hi:X.N[i]?=some y) (hy:X.env.scope.names.lookup y=some .local) (hc:X.calm=true) (S:Yb X N ρ scope cl) (hI:PI X tg iter wi)
  (hg:∀C s₀ H₀ ex pn,PG (Y2 X N scope cl C s₀ H₀ ex pn) tg g) (ht:∀C s₀ H₀ ex pn,PTs (Y2 X N scope cl C s₀ H₀ ex pn) ifs tc) (he:∀C s₀ H₀ ex pn,PE (Y2 X N scope cl C s₀ H₀ ex pn) elt te)
  (yM:swapsWith (.ListComp elt [⟨tg,iter,ifs,0⟩] scope pos) (some (.Name y py)) spos.line X.env=pure true:=by rfl) (hs:∀x,foldedSetIterable iter X.env x=pure x:=by intro _;rfl):
  PS X (.Assign [.Name y py] (.ListComp elt [⟨tg,iter,ifs,0⟩] scope pos) spos) (tSetC i (tComp ρ wi g tc te)):=by
 intro pins s σ H D I h;rw[exec_Assign_Name_used _ _ _ _ yM];refine YJU (wpAny_standAt (YJU ?_));show wpAny _ X.A (do let _ <-comprehension (.ListComp elt [⟨tg,iter,ifs,0⟩] scope pos) scope X.env _ (newList []) false (eval iter X.env) (some (assign (.Name y py) X.env))) _ _ s;refine YJU (wpAny_mono (wpAny_comprehension_free (use:=some (assign (.Name y py) X.env)) (Q:=λ_ s'=>SP X pins D .next s') rfl hs S.clos S.kind S.loc
  (thn (hI pins s σ H _ I h) λv s1 h1=>thn h1 λitv s2 h2=>?_)) (λ_ s' hq=>YJm (YJm hq)) λ_ _ e=>e)
 obtain⟨it,fp,tn,J,H2,e,I2,T,iD,f2,q2⟩:=h2;subst e;refine YHS (RR:=λacc C=>compPost (model X.prog X.w) X.A X.xe (some (assign (.Name y py) X.env)) (λ_ s'=>SP X pins D .next s') acc C) hc S hg ht he I2 T iD f2 q2 λl C s5 H4 m I6 fC hn q=>?_
 obtain⟨oC,es,ep,hoC,hdC,hrest⟩:=id hn;have I7:=I6.pinned (fp:=[C]) (λb hb=>by rw[YJa.mp hb];exact fC) (λb hb=>⟨oC,by rw[YJa.mp hb];exact hoC,λv z=>by rw[hdC]at z;cases z⟩);show wpAny _ X.A (assign (.Name y py) X.env (.ref l)) _ _ s5;refine wpAny_assign_Name (YAe I7 hN hi (.inl hy) (v:=.ref l) rfl (λs6 I8=>?_) (.inr hy));have uQ:=(I8.pin (C,oC) (YJX _ (YJX _ (Zl (YJa.mpr rfl) hoC))));refine⟨m,⟨oC,es,ep,uQ.1,hdC,hrest⟩,λh' hs'=>?_⟩;have fC':∀b∈[C],YAF X pins H4 b:=λb hb=>by rw[YJa.mp hb];exact fC
 exact⟨_,H4,I8.unpinned.turns (t':=s6.toks) (λb o hb eo=>(hs'.2 b (λz=>hb (YJa.mpr z))).trans eo) fC',q⟩
end
end L2
namespace L2
open PySem PySem.Spec PyProof.Rows
theorem YFA {x:Str}{n:Int} (h1:x.length<=1000) (h2:-1000<=n) (h3:n<=1000):MulOk x n:=by
 refine⟨?_,λhn _=>?_,λhn _=>?_⟩
 ·rw[Bool.or_eq_false_iff];exact⟨YI8 (by lia),YI8 (by lia)⟩
 ·intro hgt;have hn':0 < n:=by lia
  have h4:=(Int.ediv_lt_iff_lt_mul hn').mp hgt;have h5:(x.length:Int) * n<=1000 * 1000:=Int.mul_le_mul (by lia) h3 (by lia) (by lia)
  lia
 ·show decide (x.length * n.toNat > sizeLine)=false;refine YI8 ?_;have h5:x.length * n.toNat<=1000 * 1000:=Nat.mul_le_mul h1 (by lia);rw[sizeLine_eq]
  lia
theorem YF4 {X:Cx}:OpR X (binaryOp .Mult) (λx y H Q=>∃i n,x=.str i/\y=.int n/\i.length<=1000/\-1000<=n/\n<=1000/\Q (.str (Txt.mul i n)) H):=by
 intro pins s σ H x y v u Q I rx ry h;obtain⟨i,n,rfl,rfl,h1,h2,h3,q⟩:=h;obtain⟨t,rfl⟩:=rx;obtain⟨t',rfl⟩:=ry;exact SB.mul (YFA h1 h2 h3) λt' k=>⟨.str _,H,I.tok _,⟨_,U⟩,q⟩
theorem JY {α:Type}{xs:List α}{i:Int} (h0:0<=i) (h1:i < xs.length):∃v,atI xs i=some v/\v∈xs:=by
 have hj:i.toNat < xs.length:=by lia
 have e:((i.toNat:Nat):Int)=i:=by lia
 refine⟨xs[i.toNat],?_,List.getElem_mem hj⟩;have h:=ZH (xs:=xs) (j:=i.toNat) (v:=xs[i.toNat]) (by simp[hj]);rw[e]at h;exact h
theorem slen (a b:Str):(a ++ b).length=a.length + b.length:=by
 show(a ++ b).cps.size=a.cps.size + b.cps.size;exact Array.size_append ..
theorem in62 {x:Int} (h1:0<=x) (h2:x<=1000):(-(2 ^ 62):Int)<=x/\x < 2 ^ 62:=⟨YJn (by decide) h1,YKV h2 (by decide)⟩
theorem YF5 {H:Hp} (h:Only H):YJ H:=λa o e=>by
 rcases h a with z |⟨ob,xs,z⟩
 ·rw[e]at z;cases z
 ·rw[e]at z;cases z;rfl
end L2
namespace L2
open PySem PySem.Spec PyProof.Rows
def YES:Expr->Bool
 |.Starred _ _=>false
 |_=>true
theorem YHT {e:Expr}{es:List Expr}{env:Env} (h:YES e=true):starEach (e :: es) env=(false,eval e env) :: starEach es env:=by
 cases e <;> first |rfl |cases h
theorem pa_cs {X:Cx}{e:Expr}{es:List Expr}{te:TE}{t:TA} (ha:PE X e te) (hr:PA X es t) (h:YES e=true:=by rfl):PA X (e :: es) (tCons te t):=YA ha hr (YHT h)
def YDo (H H':Hp):Hp:=λb=>if (H b).isNone=true then H' b else none
theorem YF6 (H H':Hp):YI (YDo H H') H':=λb o e=>by
 unfold YDo at e;split at e
 ·exact e
 ·cases e
theorem YFB {H H':Hp}{b:Addr}{o:HO} (h:H b=none) (e:H' b=some o):YDo H H' b=some o:=by
 unfold YDo;rw[h];exact e
section
variable {X:Cx}
end
end L2
namespace FR
open PySem L2
structure QSs (X:Cx) (st:List Stmt) (t:TS):Prop where h:PSs X st t
structure QS (X:Cx) (st:Stmt) (t:TS):Prop where h:PS X st t
theorem YM {X:Cx}{st:Stmt}{Ye:List Stmt}{t u:TS} (h1:QS X st t) (h2:QSs X Ye u):QSs X (st :: Ye) (tSeq t u):=⟨YE h1.h h2.h⟩
theorem Zd {X:Cx}{st:Stmt}{t:TS} (h1:QS X st t):QSs X [st] t:=⟨YF h1.h⟩
structure QE (X:Cx) (e:Expr) (t:TE):Prop where h:PE X e t
structure QA (X:Cx) (es:List Expr) (t:TA):Prop where h:PA X es t
theorem YCc {X:Cx}:QA X [] tNil:=⟨YB⟩
theorem YGh {X:Cx}{e:Expr}{es:List Expr}{te:TE}{t:TA} (ha:QE X e te) (hr:QA X es t) (h:YES e=true:=by rfl):QA X (e :: es) (tCons te t):=⟨pa_cs ha.h hr.h h⟩
theorem YIU {X:Cx}{x j pos}:QE X (.Constant (.str x) j pos) (tC (.str x)):=⟨YW⟩
theorem YCd {X:Cx}{es:List Expr}{t:TA}{pos} (h:QA X es t):QE X (.List es pos) (tLst t):=⟨JW h.h⟩
theorem YF7 {X:Cx}{i:Nat}{x:Str}{e:Expr}{te:TE}{pos dI:Pos} (hN:X.N.Nodup) (hi:X.N[i]?=some x) (hx:Loc X.env.scope x) (he:QE X e te) (hs:swapsWith e (some (.Name x dI)) pos.line X.env=pure false:=by rfl) (hf:X.fn x=true\/X.env.scope.names.lookup x=some .local:=by first |exact .inl rfl |exact .inr rfl |assumption):
  QS X (.Assign [.Name x dI] e pos) (tAsg te (Yu i)):=⟨YO hN hi hx he.h hs hf⟩
theorem qex {X:Cx}{st:List Stmt}{q:TS->Prop} (h:∃t,QSs X st t/\q t):∃t,PSs X st t/\q t:=let ⟨t,a,b⟩:=h;⟨t,a.h,b⟩
end FR
namespace L2
open PySem PySem.Spec PyProof.Rows
section
variable {X:Cx}{C:Addr}{x:Str}{p pos:Pos}
end
structure YGi (P:Program) (w:World) (K:W.Frag) (mg:Str->Option Value) (CX:CXT) (k:Nat) (C:Addr) (m:Str) (ps:List Str) (sp:Sp):Prop where
 ok:∃f fd,(∀base,Yv P w K mg base CX k f fd ps sp)/\Meth K C m f/\Xh K fd ps []
structure UsedI (P:Program) (w:World) (K:W.Frag) (mg:Str->Option Value) (CX:CXT) (k:Nat) (C:Addr) (ps:List Str) (sp:Sp):Prop where
 ok:∃f fd,(∀base,Yv P w K mg base CX k f fd ps sp)/\Mk K C f/\Xh K fd ps []
theorem XI (K:W.Frag) {X:Cx} (hK:X.K=K) {e:Expr}{f:Str}{pos:Pos}{ta:TE} (he:PE X e ta) (hb:attributeBase e f X.env (eval e X.env)=eval e X.env):PE X (.Attribute e f pos) (tFld K ta f):=by subst hK;exact pe_fld he hb
theorem ps_fldK (K:W.Frag) {X:Cx} (hK:X.K=K) {o value:Expr}{f:Str}{pos dI:Pos}{ta tv:TE} (ha:PE X o ta) (hv:PE X value tv) (hs:swapsWith value (some (.Attribute o f dI)) pos.line X.env=pure false):PS X (.Assign [.Attribute o f dI] value pos) (sFld K ta tv f):=by subst hK;exact ps_fld ha hv hs
end L2
namespace L2
open PySem PySem.Spec PyProof.Rows
section
variable {X:Cx}
theorem Zx:MtR X "str.startswith" (λx vs H Q=>∃z y,x=.str z/\vs=[.str y]/\Q (.bl (Txt.startswith z y)) H):=by
 intro pins s σ H x xs v us Q I rx rs h;obtain⟨z,y,rfl,rfl,q⟩:=h;obtain⟨t,rfl⟩:=rx;obtain⟨u,rfl,t',rfl⟩:=rs.one;exact SC.startswith ⟨.bl _,H,I,U,q⟩
theorem YBH:∀l:List (Str×Tok),Yi ((l.map (·.1)).map V.str) (strValues l)
 |[]=>.nil
 |p :: r=>.cons ⟨p.2,U⟩ (YBH r)
open Builtin Builtin.Str in
theorem YAm:MtR X "str.split" (λx vs H Q=>∃z y,x=.str z/\vs=[.str y]/\(y.length == 0)=false/\z.length + 2<=sizeLine/\∀l,H l=none->Q (.ref l) (L2.upd H l (.lst ((Txt.split z y).map V.str)))):=by
 intro pins s σ H x xs v us Q I rx rs h;obtain⟨z,y,rfl,rfl,hy,hsz,q⟩:=h;obtain⟨t,rfl⟩:=rx;obtain⟨u,rfl,t',rfl⟩:=rs.one;have hn:(partsBetween z (occurrences z y 0 z.length (z.length + 1)) y.length).length<=sizeLine:=by
  have e1:=StrLaws.occ_length_le z y 0 z.length (z.length + 1);rw[length_partsBetween];lia
 have fin:∀(l:List (Str×Tok)) (k:Nat),l.map (·.1)=Txt.split z y->l.length<=sizeLine->EP X pins σ Q (.ref s.heap.objs.size) { s with heap:=s.heap.push { cls:=.type "list",data:=.seq (strValues l).toArray },toks:=k }:=λl k e hl=>by
  refine⟨.ref s.heap.objs.size,_,I.laid (t':=k) (h':=s.heap.push { cls:=.type "list",data:=.seq (strValues l).toArray }) (λb o e=>YI9 _ e) (YJB _) (show Yy X.prog X.w _ _ _ (.lst ((Txt.split z y).map V.str)) from⟨?_,strValues l,0,?_,YJS _ rfl⟩),U,q _ (I.hok.fresh (YJB _))⟩
  ·rw[<-e,YI6,YI6];exact hl
  ·rw[<-e];exact YBH l
 cases h1:(decide (z.length < y.length) || decide (strKind z < strKind y))
 ·cases hf:(occurrences z y 0 z.length (z.length + 1)).isEmpty
  ·refine call_meets F.slot_str_split (typeIs_str _ _ _) F.entry_str_split (F.args_str_split_2 _ _) (meets_str_split_sep z y t t' h1 hy hf (by lia) hn) ?_;show wants _ X.xe _ { s with toks:=_,heap:=s.heap.push { cls:=.type "list",data:=.seq (strsFrom s.toks (partsBetween z (occurrences z y 0 z.length (z.length + 1)) y.length)).toArray } };rw[strsFrom_eq];refine fin (numbered s.toks _) _ ((numbered_texts _ _).trans ((if_neg (ne_true_of_eq_false h1)).trans (if_neg (ne_true_of_eq_false hf))).symm) ?_;have:=YJ2 List.length (numbered_texts s.toks (partsBetween z (occurrences z y 0 z.length (z.length + 1)) y.length));rw[YI6]at this
   lia
  ·exact call_meets F.slot_str_split (typeIs_str _ _ _) F.entry_str_split (F.args_str_split_2 _ _) (meets_str_split_not_found z y t t' h1 hy hf)
    (fin [(z,t)] s.toks ((if_neg (ne_true_of_eq_false h1)).trans (if_pos hf)).symm (by show 1<=sizeLine;lia))
 ·exact call_meets F.slot_str_split (typeIs_str _ _ _) F.entry_str_split (F.args_str_split_2 _ _) (meets_str_split_cannot_occur z y t t' h1)
   (fin [(z,t)] s.toks (if_pos h1).symm (by show 1<=sizeLine;lia))
theorem YAn:Zr X (.type "int") (λxs H Q=>∃x n,xs=[.str x]/\PySem.intText? x=some n/\x.length<=640/\Q (.int n) H):=by
 intro pins s σ H xs us Q I r h;obtain⟨x,n,rfl,hn,hl,q⟩:=h;obtain⟨u,rfl,t,rfl⟩:=Jo r;exact PySem.W.KIN.call_text hn hl ⟨.int n,H,I.tok _,⟨_,U⟩,q⟩
end
def Y7 (c:Nat):List Nat->List (List Nat)
 |[]=>[[]]
 |a :: r=>if a=c then [] :: Y7 c r else match Y7 c r with
  |[]=>[[a]]
  |w :: ws=>(a :: w) :: ws
open Builtin Builtin.Str StrLaws in
theorem YET (x:Str) (c:Nat):∀(n a:Nat) (st:Array Nat×Nat),st.snd<=a->st.fst.size + n<=x.length + 1->
  (forIn (List.range' a n) st (occBody x ⟨#[c]⟩ x.length (x.length + 1))).run.fst.toList=st.fst.toList ++ (List.range' a n).filter λi=>decide (x.cps.toList[i]?=some c)
 |0,a,st,_,_=>by simp
 |n + 1,a,st,h1,h2=>by
  rw[List.range'_succ,List.forIn_cons];unfold occBody
  by_cases hc:x.cps.toList[a]?=some c
  ·have h3:=(subAt_one x c a).mpr hc;rw[if_pos ⟨⟨⟨by lia,h1⟩,h3.1⟩,h3.2⟩];have ih:=YET x c n (a + 1) (st.fst.push a,a + (⟨#[c]⟩:Str).length) (by show a + 1<=a + 1;lia) (by simp;lia);rw[YJt,if_pos (YI7 hc)];refine Eq.trans ih ?_;show(st.fst.push a).toList ++ _=_;rw[Array.toList_push,List.append_assoc];rfl
  ·have h3:¬(((st.fst.size < x.length + 1/\st.snd<=a)/\a + (⟨#[c]⟩:Str).length<=x.length)/\subAt x ⟨#[c]⟩ a=true):=λh=>hc ((subAt_one x c a).mp ⟨h.1.2,h.2⟩)
   rw[if_neg h3];have ih:=YET x c n (a + 1) (st.fst,st.snd) (by show st.snd<=a + 1;lia) (by show st.fst.size + n<=_;lia);rw[YJt,if_neg (by simpa using hc)];exact ih
open Builtin Builtin.Str StrLaws in
theorem occ_one (x:Str) (c:Nat):occurrences x ⟨#[c]⟩ 0 x.length (x.length + 1)=(List.range' 0 x.length).filter λi=>decide (x.cps.toList[i]?=some c):=by
 rw[occ_eq,YET x c (x.length + 1 - 0) 0 (#[],0) (YJB _) (by simp)];have hn:x.cps.toList.length=x.length:=by simp[Str.length]
 show[] ++ _=_;rw[List.nil_append,show x.length + 1 - 0=x.length + 1 from rfl,List.range'_concat,List.filter_append];have e:x.cps.toList[0 + x.length]?=none:=YJp (by lia);rw[show([0 + 1 * x.length].filter λi=>decide (x.cps.toList[i]?=some c))=[] from by
  rw[YJt,if_neg (by rw[Nat.one_mul,e];simp)];rfl]
 rw[List.append_nil]
open Builtin Builtin.Str StrLaws in
theorem YDp (x:Str) (c:Nat):∀(n a:Nat),a + n=x.length->
  (partsFrom x 1 a ((List.range' a n).filter λi=>decide (x.cps.toList[i]?=some c))).map (·.cps.toList)=Y7 c (x.cps.toList.drop a)
 |0,a,h=>by
  have hn:x.cps.toList.length=x.length:=by simp[Str.length]
  show[(strSub x a x.length).cps.toList]=_;rw[strSub_toList,List.drop_of_length_le (by lia),List.take_nil];rfl
 |n + 1,a,h=>by
  have hn:x.cps.toList.length=x.length:=by simp[Str.length]
  have ih:=YDp x c n (a + 1) (by lia);have hlt:a < x.cps.toList.length:=by lia
  have ed:x.cps.toList.drop a=x.cps.toList[a] :: x.cps.toList.drop (a + 1):=List.drop_eq_getElem_cons hlt;have eg:x.cps.toList[a]?=some x.cps.toList[a]:=YJC hlt;rw[List.range'_succ,YJt,ed];unfold Y7
  by_cases hc:x.cps.toList[a]=c
  ·rw[if_pos (by rw[eg,hc];simp),if_pos hc];show(strSub x a a).cps.toList :: (partsFrom x 1 (a + 1) _).map (·.cps.toList)=_;rw[ih,strSub_toList,Nat.sub_self,List.take_zero]
  ·rw[if_neg (by rw[eg];simpa using hc),if_neg hc,<-ih];generalize hF:((List.range' (a + 1) n).filter λi=>decide (x.cps.toList[i]?=some c))=cuts;have qU:∀i∈cuts,a + 1<=i/\i<=x.length:=λi hi=>by
    rw[<-hF]at hi;have:=List.mem_range'.mp (YKK.mp hi).1
    lia
   have head:∀j,a + 1<=j->(strSub x a j).cps.toList=x.cps.toList[a] :: (strSub x (a + 1) j).cps.toList:=λj hj=>by
    rw[strSub_toList,strSub_toList,ed,show j - a=(j - (a + 1)) + 1 by lia,List.take_succ_cons]
   cases cuts with
   |nil=>
    show[(strSub x a x.length).cps.toList]=_;rw[head _ (by lia)];rfl
   |cons i r=>
    show(strSub x a i).cps.toList :: (partsFrom x 1 (i + 1) r).map (·.cps.toList)=_;rw[head _ (qU i (YJI ..)).1];rfl
open Builtin Builtin.Str StrLaws in
theorem Zs {c:Nat}:∀{l:List Nat},¬c∈l->Y7 c l=[l]
 |[],_=>rfl
 |a :: r,h=>by
  have h1:¬a=c:=λe=>h (by rw[e];exact YJI ..)
  have ih:=Zs (c:=c) (l:=r) λm=>h (YJD _ m)
  unfold Y7;rw[if_neg h1,ih]
open Builtin Builtin.Str StrLaws in
theorem YBI (x:Str) (c:Nat) (hk:c < 128):(Txt.split x ⟨#[c]⟩).map (·.cps.toList)=Y7 c x.cps.toList:=by
 have hn:x.cps.toList.length=x.length:=by simp[Str.length]
 have occ:occurrences x ⟨#[c]⟩ 0 x.length (x.length + 1)=(List.range' 0 x.length).filter λi=>decide (x.cps.toList[i]?=some c):=occ_one x c
 have no:occurrences x ⟨#[c]⟩ 0 x.length (x.length + 1)=[]->¬c∈x.cps.toList:=λe m=>by
  obtain⟨i,hi,ei⟩:=YJu.mp m;have:i∈occurrences x ⟨#[c]⟩ 0 x.length (x.length + 1):=by
   rw[occ];exact YKK.mpr ⟨List.mem_range'.mpr ⟨i,by lia,by lia⟩,by rw[YJC hi,ei];simp⟩
  rw[e]at this;cases this
 unfold Txt.split;split
 ·rename_i h
  have hlen:¬c∈x.cps.toList:=by
   rw[YKW]at h;rcases h with h |h
   ·have h:x.length < 1:=YJH h;intro m;have:=List.length_pos_of_mem m
    lia
   ·have h:strKind x < strKind ⟨#[c]⟩:=YJH h;have e1:strKind ⟨#[c]⟩=1:=by unfold Builtin.Str.strKind;rw[if_pos (by simp;lia)]
    have e2:1<=strKind x:=by
     unfold Builtin.Str.strKind;split
     ·decide
     ·split <;> decide
    lia
  rw[Zs hlen];rfl
 ·split
  ·rename_i h2
   rw[Zs (no (List.isEmpty_iff.mp h2))];rfl
  ·rw[partsBetween_eq,occ];exact YDp x c x.length 0 (by lia)
end L2
namespace L2
open PySem PySem.Spec PyProof.Rows
section
variable {X:Cx}
end
end L2
namespace L2
open PySem PySem.Spec PyProof.Rows
section
variable {X:Cx}
end
theorem comp_fm {α:Type}{J:It}{item:Nat->V->Hp->Prop}{tc:TT}{te:TE}{Q:VK}{H:Hp}{l:Addr}{τ:St}{g:TG} (ds:List α) (f:α->Option V) (hJ:YIT J ds.length H item) (hp:YJ H)
  (hl:H l=none) (hz:ds.length<=sizeLine) (keep:St->Prop) (hk0:keep τ)
  (ht:∀(τ':St) (k:Nat) (d:α) (x:V) (H':Hp) (Q1:St->VK) (Q2:St->Hp->Prop),keep τ'->ds[k]?=some d->item k x H'->YI H H'->YJ H'->(∀y τ4 H6,keep τ4->YI H' H6->YJ H6->f d=some y->Q1 τ4 y H6)->(∀τ4 H6,keep τ4->YI H' H6->YJ H6->f d=none->Q2 τ4 H6)->
   g x τ' H' λτ4 H4=>tc τ4 H4 λb H5=>if b=true then te τ4 H5 (Q1 τ4) else Q2 τ4 H5)
  (hq:∀H',YI H H'->YJ H'->H' l=some (.lst (ds.filterMap f))->Q (.ref l) H'):YBD J g tc te Q l τ H:=by
 refine comp_by ds.length (λi ys τ' H2=>i<=ds.length/\ys=(ds.take i).filterMap f/\keep τ'/\YI H H2/\YJ H2/\H2 l=some (.lst ys)) ⟨YJh _,U,hk0,YI.upd hl,hp.upd rfl,YD⟩ ?_ ?_
 ·rintro i ys τ' H2 N hlt ⟨hi,rfl,hk,hs,qQ,hll⟩ hN;obtain⟨hgo,_⟩:=hJ i _ hs qQ;obtain⟨h1,h2⟩:=hgo hlt;refine⟨h1,λx H3 hy=>?_⟩;obtain⟨s3,p3,it⟩:=h2 x H3 hy;have e:ds[i]?=some ds[i]:=YJC hlt;have et:(ds.take (i + 1)).filterMap f=(ds.take i).filterMap f ++ (f ds[i]).toList:=by
   rw[YKE,e,List.filterMap_append];have:(some ds[i]).toList.filterMap f=(f ds[i]).toList:=by
    cases hf:f ds[i] with
    |none=>simp[hf]
    |some y=>simp[hf]
   rw[this]
  have hlen:((ds.take i).filterMap f).length<=i:=YJR (List.length_filterMap_le ..) (by rw[YJ6];lia);refine ht τ' i ds[i] x H3 (λτ4 y H6=>H6 l=some (.lst ((ds.take i).filterMap f))/\((ds.take i).filterMap f).length < sizeLine/\N ((ds.take i).filterMap f ++ [y]) τ4 (upd H6 l (.lst ((ds.take i).filterMap f ++ [y]))))
   (λτ4 H5=>N ((ds.take i).filterMap f) τ4 H5) hk e it (hs.trans s3) p3 (λy τ4 H6 k4 s6 p6 ef=>?_) λτ4 H6 k4 s6 p6 ef=>?_
  ·rw[ef]at et;have tO:H6 l=some (.lst ((ds.take i).filterMap f)):=s6 _ _ (s3 _ _ hll);exact⟨tO,by lia,hN _ _ _ ⟨hlt,et.symm,k4,((hs.trans s3).trans s6).put hl,p6.upd rfl,YD⟩⟩
  ·rw[ef]at et;have et:(ds.take (i + 1)).filterMap f=(ds.take i).filterMap f:=by rw[et];exact List.append_nil _
   exact hN _ _ _ ⟨hlt,et.symm,k4,(hs.trans s3).trans s6,p6,s6 _ _ (s3 _ _ hll)⟩
 ·rintro ys τ' H2 ⟨_,rfl,_,hs,qQ,hll⟩;rw[List.take_length]at hll;exact⟨(hJ ds.length _ hs qQ).2,hq _ hs qQ hll⟩
end L2
namespace L2
open PySem PySem.Spec PyProof.Rows
section
variable {X:Cx}
end
end L2
namespace FR
open PySem L2
def JZ (c:Nat):Bool:=decide (32<=c) && decide (c<=126) && !decide (c=37)
def ZG (c:Nat):Bool:=decide (65<=c) && decide (c<=90)
def Jp (z:Str):Bool:=z.cps.size == 2 && z.cps[0]? == some 39 && JZ (z.cps.getD 1 0)
def isNameS (z:Str):Bool:=decide (1<=z.cps.size) && decide (z.cps.size<=8) && z.cps.toList.all ZG
def YAo:D->Bool
 |.str z=>Jp z
 |_=>false
def isNameD:D->Bool
 |.str z=>isNameS z
 |_=>false
def JQ (d:D):Bool:=YAo d || isNameD d
def YFC:D->Bool
 |.int _=>true
 |_=>false
def Ja:D->Bool
 |.int i=>decide (0<=i) && decide (i<=10 ^ 60)
 |_=>false
def JT:D->Bool
 |.tup ds=>decide (ds.length<=6) && ds.all JQ
 |_=>false
def ZX:D->Bool
 |.tup [h,p,w]=>isNameD h && (JT p && Ja w)
 |_=>false
def Jq:D->Bool
 |.lst ds=>decide (ds.length<=60) && ds.all ZX
 |_=>false
mutual
def _root_.L2.D.short:D->Bool
 |.str z=>decide (z.length<=1000)
 |.lst ds=>Jb ds
 |.tup ds=>Jb ds
 |_=>true
def Jb:List D->Bool
 |[]=>true
 |d :: ds=>d.short && Jb ds
end
theorem Z5:∀{xs:List D}{d:D},Jb xs=true->d∈xs->d.short=true
 |x :: xs,d,h,hd=>by
  unfold Jb at h;rw[YJA]at h;rcases YJK.mp hd with rfl |hd
  ·exact h.1
  ·exact Z5 h.2 hd
theorem JU:∀{xs:List D},(∀d∈xs,d.short=true)->Jb xs=true
 |[],_=>by unfold Jb;rfl
 |x :: xs,h=>by unfold Jb;rw[h x YJI,JU λd hd=>h d (YJD _ hd)];rfl
theorem J8 {z:Str} (h:z.length<=1000):(D.str z).short=true:=by unfold D.short;exact YI7 h
theorem YDq {z:Str} (h:(D.str z).short=true):z.length<=1000:=by unfold D.short at h;exact YJH h
theorem YH {n:Nat} (h:n<=1000):n<=sizeLine:=YJR h (by rw[sizeLine_eq];decide)
theorem YCe {z:Str} (h:(D.str z).short=true):z.length<=sizeLine:=YH (YDq h)
def isStrD:D->Bool |.str _=>true |_=>false
def isListD:D->Bool |.lst _=>true |_=>false
def isTupD:D->Bool |.tup _=>true |_=>false
def YGj:D->Bool |.bl _=>true |_=>false
def isIntD:D->Bool |.int _=>true |.bl _=>true |_=>false
section
variable {K:W.Frag}
theorem kit_int (d:D):PySem.W.kitOne K (.type (tyD d)) (.type "int")=some (isIntD d):=by cases d <;> kernel_rfl
theorem YIV (d:D):PySem.W.kitOne K (.type (tyD d)) (.type "bool")=some (YGj d):=by cases d <;> kernel_rfl
theorem YAp (d:D):PySem.W.kitOne K (.type (tyD d)) (.type "str")=some (isStrD d):=by cases d <;> kernel_rfl
theorem YIW (d:D):PySem.W.kitOne K (.type (tyD d)) (.type "list")=some (isListD d):=by cases d <;> kernel_rfl
theorem YDr (d:D):PySem.W.kitOne K (.type (tyD d)) (.type "tuple")=some (isTupD d):=by cases d <;> kernel_rfl
end
theorem Zh (z:Str):z.length=z.cps.size:=rfl
theorem le_A (c:Nat):(!decide (([c]:List Nat) < (("A":Str)).cps.toList))=decide (65<=c):=by
 have e:(("A":Str)).cps.toList=[65]:=by decide +kernel
 rw[e]
 by_cases h:65<=c
 ·rw[YI7 h,YI8 (by rw[YJq];simp;lia)];rfl
 ·rw[YI8 h,YI7 (by rw[YJq];left;lia)];rfl
theorem le_Z (c:Nat):(!decide ((("Z":Str)).cps.toList < ([c]:List Nat)))=decide (c<=90):=by
 have e:(("Z":Str)).cps.toList=[90]:=by decide +kernel
 rw[e]
 by_cases h:c<=90
 ·rw[YI7 h,YI8 (by rw[YJq];simp;lia)];rfl
 ·rw[YI8 h,YI7 (by rw[YJq];left;lia)];rfl
theorem YIX (g:Nat->Bool) (l:List Nat):l.map (λc=>V.bl (g c))=(l.map g).map V.bl:=by rw[YJz];rfl
theorem XJ {α:Type} (g:α->Bool) (l:List α):(l.map g).all id=l.all g:=by rw[List.all_map];rfl
theorem YIY {ys:List V}{ds:List D}{g:D->Bool} (hl:ys.length=ds.length) (h:∀(k:Nat) (y:V),ys[k]?=some y->∃d,ds[k]?=some d/\y=.bl (g d)):ys=(ds.map g).map V.bl:=by
 refine List.ext_getElem? λk=>?_
 by_cases hk:k < ys.length
 ·obtain⟨d,hd,hy⟩:=h k ys[k] (YJC hk);rw[YJC hk,YJG,YJG,hd,hy];rfl
 ·rw[YJp (by lia),YJp (by rw[YI6,YI6];lia)]
theorem Jc {te:TE}{σ:St}{H:Hp}{R:VK}{b g:Bool} (ht:b=true->∀R:VK,R (.bl g) H->te σ H R) (h:R (.bl (b && g)) H):if b=true then te σ H R else R (.bl false) H:=by
 cases b with
 |true=>exact ht rfl R h
 |false=>exact h
theorem YGk {te:TE}{σ:St}{H:Hp}{R:VK}{b g:Bool} (ht:b=false->∀R:VK,R (.bl g) H->te σ H R) (h:R (.bl (b || g)) H):if b=true then R (.bl true) H else te σ H R:=by
 cases b with
 |true=>exact h
 |false=>exact ht rfl R h
inductive spIs_ (g:D->Bool) (vs:List V) (H:Hp) (Q:VK):Prop where
 |mk (x:_) (d:_) (aQ:vs=[x]) (aR:Den H x d) (bu:d.short=true) (cM:YJ H) (dR:Q (.bl (g d)) H):spIs_ g vs H Q
def Xd (g:D->Bool):Sp:=λvs H Q E_=>spIs_ g vs H Q
inductive YDs (vs:List V) (H:Hp) (Q:VK):Prop where
 |mk (c:_) (aQ:vs=[.str ⟨#[c]⟩]) (aR:Q (.bl (JZ c)) H):YDs vs H Q
def YFD:Sp:=λvs H Q E_=>YDs vs H Q
inductive YCf (C:Addr) (vs:List V) (H:Hp) (Q:VK) (E:XK):Prop where
 |mk (x:_) (d:_) (aQ:vs=[x]) (aR:Den H x d) (bu:d.short=true) (cM:YJ H) (dR:(Jq d=true->∀(l:Addr) (xs:List V) (ds:List D),d=.lst ds->YX H xs ds->H l=none->Q (.ref l) (upd H l (.lst xs)))) (lO:(Jq d=false->E (.ref C) none H)):YCf C vs H Q E
def YBJ (C:Addr):Sp:=λvs H Q E=>YCf C vs H Q E
theorem XL {b:Bool} (h:(!b)=true):b=false:=by cases b <;> first |rfl |cases h
theorem J9 {b:Bool} (h:¬(!b)=true):b=true:=by cases b <;> first |rfl |exact absurd rfl h
abbrev Y5:=Str×List Str×Int
abbrev Ya:=List Y5
def Yp (r:Y5):D:=.tup [.str r.1,.tup (r.2.1.map D.str),.int r.2.2]
def Jr (g:Ya):D:=.lst (g.map Yp)
def ZA (z:Str):Bool:=Jp z || isNameS z
def Yo (r:Y5):Bool:=isNameS r.1 && ((decide (r.2.1.length<=6) && r.2.1.all ZA) && (decide (0<=r.2.2) && decide (r.2.2<=10 ^ 60)))
def Yz (g:Ya):Bool:=decide (g.length<=60) && g.all Yo
theorem YAL (r:Y5):ZX (Yp r)=Yo r:=by
 obtain⟨h,ps,w⟩:=r;show(isNameD (.str h) && (JT (.tup (ps.map D.str)) && Ja (.int w)))=_;show(isNameS h && ((decide ((ps.map D.str).length<=6) && (ps.map D.str).all JQ) && (decide (0<=w) && decide (w<=10 ^ 60))))=_;rw[YI6,List.all_map];rfl
theorem Jw (g:Ya):Jq (Jr g)=Yz g:=by
 show(decide ((g.map Yp).length<=60) && (g.map Yp).all ZX)=_;rw[YI6,List.all_map];unfold Yz;congr 1;congr 1;funext r;exact YAL r
theorem YGl:∀{ds:List D},ds.all JQ=true->∃ps:List Str,ds=ps.map D.str
 |[],_=>⟨[],U⟩
 |d :: ds,h=>by
  rw[List.all_cons,YJA]at h;obtain⟨ps,rfl⟩:=YGl h.2;cases d with
  |str z=>exact⟨z :: ps,U⟩
  |_=>cases h.1
theorem rule_of {d:D} (h:ZX d=true):∃r:Y5,d=Yp r:=by
 unfold ZX at h;split at h
 ·rename_i a b c
  rw[YJA,YJA]at h;obtain⟨h1,h2,h3⟩:=h;cases a with
  |str z=>
   cases b with
   |tup ds=>
    cases c with
    |int w=>
     unfold JT at h2;rw[YJA]at h2;obtain⟨ps,rfl⟩:=YGl h2.2;exact⟨(z,ps,w),U⟩
    |_=>cases h3
   |_=>cases h2
  |_=>cases h1
 ·cases h
theorem YGm {d:D} (h:Jq d=true):∃g:Ya,d=Jr g/\Yz g=true:=by
 cases d with
 |lst ds=>
  have h0:=h;unfold Jq at h;rw[YJA]at h;have go:∀(ds:List D),ds.all ZX=true->∃g:Ya,ds=g.map Yp:=by
   intro ds
   induction ds with
   |nil=>exactλ_=>⟨[],U⟩
   |cons d ds ih=>
    intro hd;rw[List.all_cons,YJA]at hd;obtain⟨g,rfl⟩:=ih hd.2;obtain⟨r,rfl⟩:=rule_of hd.1;exact⟨r :: g,U⟩
  obtain⟨g,rfl⟩:=go ds h.2;refine⟨g,U,?_⟩;rw[<-Jw];exact h0
 |_=>cases h
theorem XA {H:Hp}{v:V}{r:Y5} (h:Den H v (Yp r)):∃t p,v=.ref t/\H t=some (.tup [.str r.1,.ref p,.int r.2.2])/\H p=some (.tup (r.2.1.map V.str)):=by
 obtain⟨t,xs,rfl,ht,cN⟩:=h.to_tup
 match xs,cN with
 |[x0,x1,x2],cN=>
  obtain⟨_,e0,n0⟩:=cN.get (i:=0) (v:=x0) rfl;obtain⟨_,e1,n1⟩:=cN.get (i:=1) (v:=x1) rfl;obtain⟨_,e2,n2⟩:=cN.get (i:=2) (v:=x2) rfl;cases e0;cases e1;cases e2;have f0:=n0.to_str;have f2:=n2.to_int;obtain⟨p,ys,f1,hp,hys⟩:=n1.to_tup;subst f0 f1 f2;refine⟨t,p,U,ht,?_⟩;have:ys=r.2.1.map V.str:=by
   refine List.ext_getElem? λi=>?_
   cases e:ys[i]? with
   |none=>
    have h1:=YKN.mp e;have h2:=hys.len;rw[YI6]at h2;rw[YJp (by rw[YI6];lia)]
   |some y=>
    obtain⟨d,hd,dn⟩:=hys.get e;rw[YJG]at hd ⊢;cases e2:r.2.1[i]? with
    |none=>rw[e2]at hd;cases hd
    |some z=>
     rw[e2]at hd;cases hd;rw[dn.to_str];rfl
  rw[hp,this]
 |[],h=>exact absurd h.len (by simp)
 |[_],h=>exact absurd h.len (by simp)
 |[_,_],h=>exact absurd h.len (by simp)
 |_ :: _ :: _ :: _ :: _,h=>exact absurd h.len (by simp)
theorem YIZ {H:Hp}{v:V}{g:Ya} (h:Den H v (Jr g)):∃a xs,v=.ref a/\Rd H a (.lst xs)/\YX H xs (g.map Yp):=h.to_lst
theorem YB9 {H:Hp}{xs:List V}{g:Ya} (h:YX H xs (g.map Yp)) {i:Nat}{v:V} (e:xs[i]?=some v):
  ∃r t p,g[i]?=some r/\v=.ref t/\H t=some (.tup [.str r.1,.ref p,.int r.2.2])/\H p=some (.tup (r.2.1.map V.str)):=by
 obtain⟨d,hd,dn⟩:=h.get e;rw[YJG]at hd;cases e2:g[i]? with
 |none=>rw[e2]at hd;cases hd
 |some r=>
  rw[e2]at hd;cases hd;obtain⟨t,p,e3,e4,e5⟩:=XA dn;exact⟨r,t,p,U,e3,e4,e5⟩
theorem YAW:∀{xs:List D}{n:Nat},(∀d∈xs,d.dep<=n)->YE8 xs<=n
 |[],n,_=>by unfold YE8;exact YJh _
 |x :: xs,n,h=>by
  unfold YE8;exact Nat.max_le.mpr ⟨h x YJI,YAW λd hd=>h d (YJD _ hd)⟩
theorem ok_lst {xs:List D} (h:∀d∈xs,d.ok=true):(D.lst xs).ok=true:=by unfold D.ok;exact YF3 h
theorem YIa {xs:List D} (h:∀d∈xs,d.ok=true):(D.tup xs).ok=true:=by unfold D.ok;exact YF3 h
theorem YIb (z:Str):(D.str z).ok=true:=by unfold D.ok;rfl
theorem ok_int (z:Int):(D.int z).ok=true:=by unfold D.ok;rfl
theorem dep_lst {xs:List D}{n:Nat} (h:∀d∈xs,d.dep<=n):(D.lst xs).dep<=n + 1:=by unfold D.dep;exact Nat.succ_le_succ (YAW h)
theorem YGn {xs:List D}{n:Nat} (h:∀d∈xs,d.dep<=n):(D.tup xs).dep<=n + 1:=by unfold D.dep;exact Nat.succ_le_succ (YAW h)
theorem YGo (z:Str):(D.str z).dep=0:=by unfold D.dep;rfl
theorem dep_int (z:Int):(D.int z).dep=0:=by unfold D.dep;rfl
theorem ok_rule (r:Y5):(Yp r).ok=true:=by
 refine YIa λd hd=>?_
 simp only[YJK,YJ5,or_false]at hd;rcases hd with rfl |rfl |rfl
 ·exact YIb _
 ·refine YIa λd hd=>?_
  obtain⟨z,_,rfl⟩:=YJM.mp hd;exact YIb z
 ·exact ok_int _
theorem YIc (r:Y5):(Yp r).dep<=2:=by
 refine YGn (n:=1) λd hd=>?_
 simp only[YJK,YJ5,or_false]at hd;rcases hd with rfl |rfl |rfl
 ·rw[YGo];decide
 ·refine YGn (n:=0) λd hd=>?_
  obtain⟨z,_,rfl⟩:=YJM.mp hd;rw[YGo];exact YJB _
 ·rw[dep_int];decide
theorem YGp (g:Ya):(Jr g).ok=true:=ok_lst λd hd=>by
 obtain⟨r,_,rfl⟩:=YJM.mp hd;exact ok_rule r
theorem YFE (g:Ya):(Jr g).dep<=64:=YJR (dep_lst (n:=2) λd hd=>by
 obtain⟨r,_,rfl⟩:=YJM.mp hd;exact YIc r) (by decide)
theorem YBK {z:Str} (h:isNameS z=true):z.length<=8:=by
 unfold isNameS at h;rw[YJA,YJA]at h;exact YJH h.1.2
theorem YCg {z:Str} (h:ZA z=true):z.length<=8:=by
 unfold ZA at h;rw[YKW]at h;rcases h with h |h
 ·unfold Jp at h;rw[YJA,YJA,beq_iff_eq]at h;show z.cps.size<=8
  lia
 ·exact YBK h
theorem YF8 {r:Y5} (h:Yo r=true):(Yp r).short=true:=by
 unfold Yo at h;simp only[YJA]at h;obtain⟨h1,⟨h2,h3⟩,h4⟩:=h;unfold Yp D.short;refine JU λd hd=>?_
 simp only[YJK,YJ5,or_false]at hd;rcases hd with rfl |rfl |rfl
 ·exact J8 (YJR (YBK h1) (by decide))
 ·unfold D.short;refine JU λd hd=>?_
  obtain⟨z,hz,rfl⟩:=YJM.mp hd;exact J8 (YJR (YCg (YJP.mp h3 z hz)) (by decide))
 ·unfold D.short;rfl
theorem JR {g:Ya} (h:Yz g=true):g.length<=60:=by
 unfold Yz at h;rw[YJA]at h;exact YJH h.1
theorem YGq:∀{a b:List Str},a.map D.str=b.map D.str->a=b
 |[],[],_=>rfl
 |[],_ :: _,h=>by cases h
 |_ :: _,[],h=>by cases h
 |x :: a,y :: b,h=>by
  rw[YJO,YJO]at h
  injection h with h1 h2
  injection h1 with h3
  rw[h3,YGq h2]
theorem YHU {r r':Y5} (h:Yp r=Yp r'):r=r':=by
 obtain⟨a,b,c⟩:=r;obtain⟨a',b',c'⟩:=r';unfold Yp at h
 injection h with h
 injection h with h1 h2
 injection h2 with h2 h3
 injection h3 with h3 _
 injection h1 with h1
 injection h2 with h2
 injection h3 with h3
 have h1':a=a':=h1;have h3':c=c':=h3;have h2':b=b':=YGq h2;rw[h1',h2',h3']
theorem YHV {g g':Ya} (h:Jr g=Jr g'):g=g':=by
 unfold Jr at h
 injection h with h
 induction g generalizing g' with
 |nil=>
  cases g' with
  |nil=>rfl
  |cons _ _=>cases h
 |cons r g ih=>
  cases g' with
  |nil=>cases h
  |cons r' g'=>
   rw[YJO,YJO]at h
   injection h with h1 h2
   rw[YHU h1,ih h2]
def oV:Option Int->V
 |none=>.non
 |some i=>.int i
inductive YGr (K:W.Frag) (vs:List V) (H:Hp) (Q:VK):Prop where
 |mk (a:Addr) (ns:List Int) (k:Int) (aQ:vs=[.ref a,.int k]) (aR:SqL K H a (ns.map V.int)) (bu:0<=k) (cM:∀v:Int,Q (.int v) H):YGr K vs H Q
def YF9 (K:W.Frag):Sp:=λvs H Q E_=>YGr K vs H Q
inductive YId (K:W.Frag) (vs:List V) (H:Hp) (Q:VK):Prop where
 |mk (a:Addr) (ns:List Int) (aQ:vs=[.ref a]) (aR:SqL K H a (ns.map V.int)) (bu:ns.length<=63) (cM:YJ H) (dR:∀H',Q (.bl true) H'):YId K vs H Q
def YFF (K:W.Frag):Sp:=λvs H Q E_=>YId K vs H Q
theorem YHW {K:W.Frag}{H:Hp}{a:Addr}{ns:List Int} (hl:ns.length<=63) (hO:Only H) (hS:SqL K H a (ns.map V.int)):YFF K [.ref a] H (λv _=>v=.bl true) λ_ _ _=>False:=
 ⟨a,ns,U,hS,hl,YF5 hO,λ_=>rfl⟩
def YGs (l:List Nat):Bool:=decide (1<=l.length) && decide (l.length<=8) && l.all ZG
theorem YBi (z:Str):isNameS z=YGs z.cps.toList:=by
 unfold isNameS YGs;rw[YJk]
def BIG:Str:="ABCDEFGHIJKLMNOPQRSTUVWXYZ"
theorem YIe:BIG.cps.toList=(List.range 26).map (65 + ·):=by decide +kernel
theorem YEU:BIG.cps.toList.length=26:=by decide +kernel
theorem YCh:BIG.length<=sizeLine:=YH (by decide +kernel)
theorem YAX {c:Nat} (h:c∈BIG.cps.toList):ZG c=true:=by
 rw[YIe]at h;obtain⟨k,hk,rfl⟩:=YJM.mp h;have:=YKG.mp hk;unfold ZG;rw[YI7 (by lia),YI7 (by lia)];rfl
theorem XB (a b:Str):(a ++ b).cps.toList=a.cps.toList ++ b.cps.toList:=by
 show(a.cps ++ b.cps).toList=_;exact Array.toList_append
def strOf:Expr->Str
 |.Constant (.str x) _ _=>x
 |.BinOp _ _ b _=>strOf b
 |_=>⟨#[]⟩
def valOf:Stmt->Str
 |.Assign _ v _=>strOf v
 |.Return (some v) _=>strOf v
 |_=>⟨#[]⟩
def YEV (s:Stmt) (i:Nat):Str:=valOf ((Zc s).getD i (.Pass ⟨0,0,0,0⟩))
def YBL:List Nat:=(List.range 95).filterMap λk=>if k=5 then none else some (32 + k)
theorem YGA {c:Nat} (h:c∈YBL):JZ c=true:=by
 obtain⟨k,hk,e⟩:=YKU.mp h;have:=YKG.mp hk;unfold JZ;split at e
 ·cases e
 ·cases e;rw[YI7 (by lia),YI7 (by lia),YI8 (by lia)];rfl
theorem YHX:YBL.length=94:=by decide +kernel
theorem YIf:(("'":Str)).cps.toList=[39]:=by decide +kernel
theorem YIg (c:Nat):(("'":Str) ++ ⟨#[c]⟩).cps=#[39,c]:=by
 apply Array.ext';rw[XB,YIf];rfl
theorem YHY {c:Nat} (h:JZ c=true):Jp (("'":Str) ++ ⟨#[c]⟩)=true:=by
 unfold Jp;rw[YIg];show(true && JZ c)=true;rw[h];rfl
theorem YHZ {c:Nat} (h:JZ c=true):ZA (("'":Str) ++ ⟨#[c]⟩)=true:=by
 unfold ZA;rw[YHY h];rfl
theorem YHa {r:Y5} (h1:isNameS r.1=true) (h2:r.2.1.length<=6) (h3:∀z∈r.2.1,ZA z=true) (h4:0<=r.2.2) (h5:r.2.2<=10 ^ 60):Yo r=true:=by
 unfold Yo;have a:r.2.1.all ZA=true:=YJP.mpr h3;rw[h1,YI7 h2,a,YI7 h4,YI7 h5];rfl
theorem YAY {ys:List V}{P:Str->Prop} (h:∀(k:Nat) (y:V),ys[k]?=some y->∃z,y=.str z/\P z):∃zs:List Str,ys=zs.map V.str/\∀z∈zs,P z:=by
 induction ys with
 |nil=>exact⟨[],U,by simp⟩
 |cons y ys ih=>
  obtain⟨zs,rfl,hz⟩:=ih λk y e=>h (k + 1) y (by simpa using e)
  obtain⟨z,rfl,pz⟩:=h 0 y rfl;exact⟨z :: zs,U,λx hx=>(YJK.mp hx).elim (λe=>by rw[e];exact pz) (hz x)⟩
theorem YIh {x:Str}{j:Int} (h0:0<=j) (h1:j<=x.length):(Txt.slice x none (some j)).cps.toList=x.cps.toList.take j.toNat:=by
 have h:=PyProof.Rows.slice_closes_to (x:=x) (j:=j) ⟨h0,by rw[YJk];exact h1⟩;have e:=eq_of_beq h;rw[e];show((x.cps.toList.drop (0:Int).toNat).take (j - 0).toNat)=_;rw[Int.sub_zero];rfl
theorem YGB {x:Str}{i:Int} (h0:0<=i) (h1:i<=x.length):(Txt.slice x (some i) none).cps.toList=x.cps.toList.drop i.toNat:=by
 have e:=PyProof.Rows.slice_from_eq (x:=x) (i:=i) (b:=x.length) h0 h1 rfl;rw[e];show((x.cps.toList.drop i.toNat).take ((x.length:Int) - i).toNat)=_;refine YKA ?_;rw[List.length_drop,YJk];have:x.length=x.cps.size:=rfl
 lia
def YBs (c:Nat):Bool:=decide (48<=c) && decide (c<=57)
def ZZ (z:Str):Bool:=(decide (1<=z.cps.size) && decide (z.cps.size<=61) && z.cps.toList.all YBs) && (decide (z="0") || !Txt.startswith z "0")
def Yj (p:Str):Str:=if p="' " then "'" else p
def Yd (w:Str):Str:=if w="'" then "' " else w
def Xr (z:Str):Int:=((NumText.digitsVal z.cps.toList:Nat):Int)
def Yk (r:Y5):Str:=Txt.join " " ([r.1,(toString r.2.2:String),"="] ++ r.2.1.map Yj)
def YCA:List Str->Option Y5
 |h :: n :: e :: ps=>if (ZZ n && decide (e="="))=true then (if Yo (h,ps.map Yd,Xr n)=true then some (h,ps.map Yd,Xr n) else none) else none
 |_=>none
def Js (x:Str):Option Y5:=YCA (Txt.split x " ")
def YGt:D->Option Y5
 |.str z=>Js z
 |_=>none
inductive YCi (vs:List V) (H:Hp) (Q:VK):Prop where
 |mk (z:_) (aQ:vs=[.str z]) (aR:z.length<=1000) (bu:YJ H) (cM:Q (.bl (ZZ z)) H):YCi vs H Q
def YBM:Sp:=λvs H Q E_=>YCi vs H Q
inductive YGu (f:Str->Str) (vs:List V) (H:Hp) (Q:VK):Prop where
 |mk (z:_) (aQ:vs=[.str z]) (aR:Q (.str (f z)) H):YGu f vs H Q
def YEW (f:Str->Str):Sp:=λvs H Q E_=>YGu f vs H Q
inductive YBj (vs:List V) (H:Hp) (Q:VK):Prop where
 |mk (x:_) (r:_) (aQ:vs=[x]) (aR:Den H x (Yp r)) (bu:Yo r=true) (cM:YJ H) (dR:∀H',YI H H'->YJ H'->Q (.str (Yk r)) H'):YBj vs H Q
def YCj:Sp:=λvs H Q E_=>YBj vs H Q
inductive YBk (C:Addr) (vs:List V) (H:Hp) (Q:VK) (E:XK):Prop where
 |mk (x:_) (d:_) (aQ:vs=[x]) (aR:Den H x d) (bu:d.short=true) (cM:YJ H) (dR:(∀r,YGt d=some r->∀p H',YI H H'->YJ H'->Den (YDo H H') p (Yp r)->Q p H')) (lO:(YGt d=none->∀H',YI H H'->YJ H'->E (.ref C) none H')):YBk C vs H Q E
def YCk (C:Addr):Sp:=λvs H Q E=>YBk C vs H Q E
theorem le_0 (c:Nat):(!decide (([c]:List Nat) < (("0":Str)).cps.toList))=decide (48<=c):=by
 have e:(("0":Str)).cps.toList=[48]:=by decide +kernel
 rw[e]
 by_cases h:48<=c
 ·rw[YI7 h,YI8 (by rw[YJq];simp;omega)];rfl
 ·rw[YI8 h,YI7 (by rw[YJq];left;omega)];rfl
theorem le_9 (c:Nat):(!decide ((("9":Str)).cps.toList < ([c]:List Nat)))=decide (c<=57):=by
 have e:(("9":Str)).cps.toList=[57]:=by decide +kernel
 rw[e]
 by_cases h:c<=57
 ·rw[YI7 h,YI8 (by rw[YJq];simp;omega)];rfl
 ·rw[YI8 h,YI7 (by rw[YJq];left;omega)];rfl
theorem YDt {z:Str} (h:ZZ z=true):PySem.intText? z=some (Xr z)/\z.length<=640:=by
 unfold ZZ at h;simp only[YJA,YJb]at h;obtain⟨⟨⟨h1,h2⟩,h3⟩,_⟩:=h;have hl:z.length<=640:=YJR h2 (by decide);refine⟨PySem.intText_digits (λc hc=>?_) (λe=>?_) (YJR hl (by decide)),hl⟩
 ·have:=YJP.mp h3 c hc;unfold YBs at this;simp only[YJA,YJb]at this;exact this
 ·have:z.cps.toList.length=0:=by rw[e];rfl
  rw[YJk]at this;omega
theorem YIi {x y:Str} (h:x.cps.toList=y.cps.toList):x=y:=by
 cases x;cases y;congr 1;exact Array.toList_inj.mp h
theorem dec_str {x y:Str}:decide (V.str x=V.str y)=decide (x=y):=by
 by_cases h:x=y
 ·rw[YI7 h,YI7 (by rw[h])]
 ·rw[YI8 h,YI8 (λe=>h (V.str.inj e))]
open Builtin Builtin.Str in
theorem YHb (x y:Str):(Txt.split x y).length<=x.length + 2:=by
 unfold Txt.split;split
 ·show 1<=_;omega
 ·split
  ·show 1<=_;omega
  ·have e1:=StrLaws.occ_length_le x y 0 x.length (x.length + 1);rw[length_partsBetween];omega
def YGv (c:Nat):List (List Nat)->List Nat
 |[]=>[]
 |[w]=>w
 |w :: v :: r=>w ++ c :: YGv c (v :: r)
theorem YCl {c:Nat}{l:List Nat}:∀{w:List Nat},¬c∈w->Y7 c (w ++ c :: l)=w :: Y7 c l
 |[],_=>by
  show Y7 c (c :: l)=_;rw[Y7,if_pos rfl]
 |a :: w,h=>by
  have h1:¬a=c:=λe=>h (by rw[e];exact YJI ..)
  have ih:=YCl (c:=c) (l:=l) (w:=w) λm=>h (YJD _ m)
  show Y7 c (a :: (w ++ c :: l))=_;rw[Y7,if_neg h1,ih]
theorem YBl {c:Nat}:∀{ws:List (List Nat)},ws≠[]->(∀w∈ws,¬c∈w)->Y7 c (YGv c ws)=ws
 |[],h,_=>absurd rfl h
 |[w],_,h=>Zs (h w (YJI ..))
 |w :: v :: r,_,h=>by
  show Y7 c (w ++ c :: YGv c (v :: r))=_;rw[YCl (h w (YJI ..)),YBl (by simp) λx hx=>h x (YJD _ hx)]
theorem YCm (c:Nat):∀ws:List Str,(Str.join ⟨#[c]⟩ ws).cps.toList=YGv c (ws.map (·.cps.toList))
 |[]=>rfl
 |[w]=>rfl
 |w :: v :: r=>by
  show(w ++ ⟨#[c]⟩ ++ Str.join ⟨#[c]⟩ (v :: r)).cps.toList=_;rw[XB,XB,YCm c (v :: r),List.append_assoc];rfl
theorem YDu:∀{xs ys:List Str},xs.map (·.cps.toList)=ys.map (·.cps.toList)->xs=ys
 |[],[],_=>rfl
 |[],_ :: _,h=>by cases h
 |_ :: _,[],h=>by cases h
 |x :: xs,y :: ys,h=>by
  rw[YJO,YJO]at h
  injection h with h1 h2
  rw[YIi h1,YDu h2]
theorem YIj:(" ":Str)=⟨#[32]⟩:=by decide +kernel
theorem YGC {ws:List Str} (h0:ws≠[]) (h:∀w∈ws,¬32∈w.cps.toList):Txt.split (Txt.join " " ws) " "=ws:=by
 apply YDu;rw[YIj,YBI _ 32 (by decide)];show Y7 32 (Builtin.Str.glued ⟨#[32]⟩ ws).cps.toList=_;rw[StrLaws.glued_eq_join,YCm,YBl (by simpa using h0)];intro w hw;obtain⟨x,hx,rfl⟩:=YJM.mp hw;exact h x hx
theorem YDv {z:Str} (h:isNameS z=true):¬32∈z.cps.toList:=λm=>by
 unfold isNameS at h;rw[YJA]at h;have:=YJP.mp h.2 32 m;exact absurd this (by decide)
theorem YGD {z:Str} (h:Jp z=true):∃c,z.cps.toList=[39,c]/\JZ c=true:=by
 unfold Jp at h;rw[YJA,YJA]at h;obtain⟨⟨h1,h2⟩,h3⟩:=h;have h1:z.cps.size=2:=eq_of_beq h1;have h2:z.cps[0]?=some 39:=eq_of_beq h2;refine⟨z.cps.getD 1 0,?_,h3⟩;refine List.ext_getElem? λi=>?_
 match i with
 |0=>rw[YJ1,h2];rfl
 |1=>rw[YJ1];simp[h1]
 |i + 2=>rw[YJp (by rw[YJk];omega),YJp (by simp)]
theorem qb_list:(("' ":Str)).cps.toList=[39,32]:=by decide +kernel
theorem YHc {p:Str} (h:ZA p=true):¬32∈(Yj p).cps.toList:=by
 unfold Yj;split
 ·rw[YIf];decide
 ·rename_i hn
  unfold ZA at h;rw[YKW]at h;rcases h with h |h
  ·obtain⟨c,hc,hg⟩:=YGD h;rw[hc];intro m;have:c=32:=(show 32=c by simpa using m).symm;subst this;exact hn (YIi (by rw[hc,qb_list]))
  ·exact YDv h
theorem YHd {p:Str} (h:ZA p=true):Yd (Yj p)=p:=by
 unfold Yj Yd
 by_cases e:p="' "
 ·rw[if_pos e,if_pos rfl,e]
 ·rw[if_neg e,if_neg];intro e2;rw[e2]at h;exact absurd h (by decide +kernel)
theorem YDw {n:Int} (h0:0<=n):((toString n:String):Str).cps.toList=(Nat.toDigits 10 n.toNat).map Char.toNat:=by
 have e:n=((n.toNat:Nat):Int):=by omega
 have:=PySem.W.KIN.signs_num n.toNat;rw[<-e]at this;exact this
theorem dig_ne0:∀d:Nat,d < 10->0 < d->(Nat.digitChar d).toNat≠48:=by decide
theorem YHe (m:Nat):0 < m->∃c r,(Nat.toDigits 10 m).map Char.toNat=c :: r/\c≠48:=by
 induction m using Nat.strongRecOn with
 |_ m ih=>
  intro hm
  by_cases h:m < 10
  ·rw[Nat.toDigits_of_lt_base h];exact⟨_,_,U,dig_ne0 m h hm⟩
  ·have hm:m % 10 < 10:=Nat.mod_lt m (by decide);have t:Nat.toDigits 10 (m / 10) ++ Nat.toDigits 10 (m % 10)=Nat.toDigits 10 (10 * (m / 10) + m % 10):=Nat.toDigits_append_toDigits (by decide) (by omega) hm;rw[Nat.div_add_mod]at t;obtain⟨c,r,e,hc⟩:=ih (m / 10) (by omega) (by omega);rw[<-t,YJj,e];exact⟨c,_,U,hc⟩
theorem YIk (z:Str):Txt.startswith z "0"=decide (z.cps.toList[0]?=some 48):=by
 have e0:(("0":Str))=⟨#[48]⟩:=by decide +kernel
 rw[e0,YJ9,YJb];have:=StrLaws.subAt_one z 48 0;unfold Txt.startswith;rw[YJA,YJb];exact this
theorem YCB {n:Int} (h0:0<=n) (h1:n<=10 ^ 60):ZZ (toString n:String)=true:=by
 have hc:=YDw h0;have hl:((toString n:String):Str).length<=61:=PyProof.Rows.toString_length_le h0 (by decide) (YKV h1 (by decide));have hl1:1<=((toString n:String):Str).cps.size:=by
  rw[<-YJk,hc,YI6];exact toDigits_len_ge 10 _
 unfold ZZ;rw[YI7 hl1,YI7 (show((toString n:String):Str).cps.size<=61 from hl),YJA];refine⟨?_,?_⟩
 ·show((toString n:String):Str).cps.toList.all YBs=true;rw[hc,YJP];intro c hm;obtain⟨ch,mX,rfl⟩:=YJM.mp hm;have r:=PyProof.Rows.digit_range (Nat.isDigit_of_mem_toDigits (by decide) (by decide) mX);unfold YBs;rw[YI7 r.1,YI7 r.2];rfl
 ·by_cases hz:n=0
  ·subst hz;decide +kernel
  ·obtain⟨c,r,e,hne⟩:=YHe n.toNat (by omega);have e9:Txt.startswith (toString n:String) "0"=false:=by
    rw[YIk,hc,e];exact YI8 (by simpa using hne)
   rw[e9];simp
theorem YGw {n:Int} (h0:0<=n):Xr (toString n:String)=n:=by
 unfold Xr;rw[YDw h0,PySem.W.KIN.val_back];omega
theorem YFG {n:Int} (h0:0<=n) (h1:n<=10 ^ 60):¬32∈((toString n:String):Str).cps.toList:=λm=>by
 have h:=YCB h0 h1;unfold ZZ at h;rw[YJA,YJA]at h;have:=YJP.mp h.1.2 32 m;exact absurd this (by decide)
theorem X9 {n:Int} (h0:0<=n) (h1:n<=10 ^ 60):((toString n:String):Str).length<=61:=PyProof.Rows.toString_length_le h0 (by decide) (YKV h1 (by decide))
theorem Z6 {i:Int} (h0:0<=i) (h1:i<=10 ^ 60):i.natAbs.log2 < 1920:=by
 by_cases hz:i.natAbs=0
 ·rw[hz];decide
 ·refine YJQ ((Nat.log2_lt hz).mpr ?_) (show 200<=1920 by decide);have:(10:Int) ^ 60 < ((2 ^ 200:Nat):Int):=by decide +kernel
  have h2:((i.natAbs:Nat):Int) < ((2 ^ 200:Nat):Int):=by
   rw[Int.natAbs_of_nonneg h0];exact YKV h1 this
  exact Int.ofNat_lt.mp h2
theorem YCn {r:Y5} (h:Yo r=true):0<=r.2.2/\r.2.2<=10 ^ 60:=by
 unfold Yo at h;simp only[YJA,YJb]at h;exact h.2.2
theorem YAq {r:Y5} (h:Yo r=true):r.2.1.length<=6/\∀p∈r.2.1,ZA p=true:=by
 unfold Yo at h;simp only[YJA,YJb]at h;exact⟨h.2.1.1,λp hp=>YJP.mp h.2.1.2 p hp⟩
theorem YEX {r:Y5} (h:Yo r=true):isNameS r.1=true:=by
 unfold Yo at h;rw[YJA]at h;exact h.1
theorem YEY {p:Str} (h:p.length<=1000):(Yd p).length<=1000:=by
 unfold Yd;split
 ·decide +kernel
 ·exact h
theorem YHf {r:Y5} (h:Yo r=true):Js (Yk r)=some r:=by
 have hw:=YCn h;have hps:=YAq h;have hh:=YEX h;unfold Js Yk;rw[YGC (by simp)]
 ·show(if (ZZ (toString r.2.2:String) && decide (("=":Str)="="))=true then (if Yo (r.1,(r.2.1.map Yj).map Yd,Xr (toString r.2.2:String))=true then some (r.1,(r.2.1.map Yj).map Yd,Xr (toString r.2.2:String)) else none) else none)=_;have e1:(r.2.1.map Yj).map Yd=r.2.1:=by
   rw[YJz];refine(YJ8 λp hp=>?_).trans (List.map_id _);exact YHd (hps.2 p hp)
  rw[YCB hw.1 hw.2,e1,YGw hw.1,YI7 rfl];show(if Yo r=true then some r else none)=_;rw[if_pos h]
 ·intro w hw';rcases YJg.mp hw' with m |m
  ·simp only[YJK,YJ5,or_false]at m;rcases m with rfl |rfl |rfl
   ·exact YDv hh
   ·exact YFG hw.1 hw.2
   ·decide +kernel
  ·obtain⟨p,hp,rfl⟩:=YJM.mp m;exact YHc (hps.2 p hp)
theorem Jd {ws:List Str}{n m:Nat} (h:∀w∈ws,w.length<=n) (hl:ws.length<=m):(ws.map (·.length)).sum<=m * n:=by
 have go:∀{ws:List Str},(∀w∈ws,w.length<=n)->(ws.map (·.length)).sum<=ws.length * n:=by
  intro ws
  induction ws with
  |nil=>intro _;simp
  |cons w ws ih=>
   intro h;have h1:=ih λx hx=>h x (YJD _ hx)
   have h2:=h w (YJI ..);rw[YJO,YKT,YJY,Nat.succ_mul];omega
 exact YJR (go h) (Nat.mul_le_mul_right _ hl)
theorem YBN {r:Y5} (h:Yo r=true):∀w∈[r.1,((toString r.2.2:String):Str),"="] ++ r.2.1.map Yj,w.length<=61:=by
 have hw:=YCn h;have hps:=YAq h;have hh:=YEX h;intro w hw';rcases YJg.mp hw' with m |m
 ·simp only[YJK,YJ5,or_false]at m;rcases m with rfl |rfl |rfl
  ·exact YJR (YBK hh) (by decide)
  ·exact X9 hw.1 hw.2
  ·decide +kernel
 ·obtain⟨p,hp,rfl⟩:=YJM.mp m;have hp:=hps.2 p hp;unfold Yj;split
  ·decide +kernel
  ·exact YJR (YCg hp) (by decide)
theorem YAr {r:Y5} (h:Yo r=true):(Yk r).length<=700:=by
 have hps:=(YAq h).1;have h1:=Jd (m:=9) (YBN h) (by rw[YJL,YI6];show 3 + _<=9;omega);unfold Yk;show(Builtin.Str.glued " " _).length<=700;rw[StrLaws.glued_eq_join];refine YJR (StrLaws.join_length_le _ _) ?_;rw[show((" ":Str)).length=1 from by decide +kernel,YKX,YJL,YI6];show _ + (3 + _)<=700;omega
abbrev Sz:=List (Str×Int)
def szD (s:Sz):List (Key×V):=s.map λp=>(Sum.inr p.1,.int p.2)
def look (s:Sz) (z:Str):Option Int:=(s.find? λp=>decide (p.1=z)).map (·.2)
def ZW:Sz->Str->Int->Sz
 |[],z,n=>[(z,n)]
 |p :: s,z,n=>if p.1=z then (z,n) :: s else p :: ZW s z n
theorem Ze (p:Str×Int) (s:Sz) (z:Str):look (p :: s) z=if p.1=z then some p.2 else look s z:=by
 unfold look;rw[YKF]
 by_cases h:p.1=z
 ·rw[YI7 h,if_pos h];rfl
 ·rw[YI8 h,if_neg h]
theorem ZM (s:Sz) (z y:Str) (n:Int):look (ZW s z n) y=if y=z then some n else look s y:=by
 induction s with
 |nil=>
  show look [(z,n)] y=_;rw[Ze]
  by_cases h:y=z
  ·rw[if_pos h,if_pos h.symm]
  ·rw[if_neg h,if_neg (λe=>h e.symm)]
 |cons p s ih=>
  unfold ZW
  by_cases hp:p.1=z
  ·rw[if_pos hp,Ze,Ze]
   by_cases h:y=z
   ·rw[if_pos h,if_pos h.symm]
   ·rw[if_neg h,if_neg (λe=>h e.symm),if_neg (λe=>h (e.symm.trans hp))]
  ·rw[if_neg hp,Ze,Ze,ih]
   by_cases h:y=z
   ·rw[if_pos h,if_neg (λe=>hp (e.trans h))];rw[if_pos h]
   ·rw[if_neg h];simp only[if_neg h]
theorem YHg {s:Sz}{z:Str} (h:look s z=none):¬z∈s.map (·.1):=by
 intro m;obtain⟨p,hp,e⟩:=YJM.mp m;unfold look at h;cases e2:s.find? λp=>decide (p.1=z) with
 |some q=>rw[e2]at h;cases h
 |none=>
  have:=List.find?_eq_none.mp e2 p hp;exact this (YI7 e)
theorem YEZ {s:Sz} (nd:(s.map (·.1)).Nodup) {z:Str}{n:Int} (h:(z,n)∈s):look s z=some n:=by
 induction s with
 |nil=>cases h
 |cons p s ih=>
  rw[YJO,YJo]at nd;rw[Ze];rcases YJK.mp h with e |h
  ·rw[<-e,if_pos rfl]
  ·rw[if_neg,ih nd.2 h];intro e;exact nd.1 (e ▸ YJM.mpr ⟨_,h,U⟩)
theorem Xs (s:Sz) (z:Str) (n:Int):(ZW s z n).map (·.1)=if z∈s.map (·.1) then s.map (·.1) else s.map (·.1) ++ [z]:=by
 induction s with
 |nil=>rfl
 |cons p s ih=>
  unfold ZW
  by_cases h:p.1=z
  ·rw[if_pos h,if_pos (by rw[YJO,h];exact YJI ..),YJO,YJO,h]
  ·rw[if_neg h,YJO,ih,YJO]
   by_cases m:z∈s.map (·.1)
   ·rw[if_pos m,if_pos (YJD _ m)]
   ·rw[if_neg m,if_neg (λe=>(YJK.mp e).elim (λe=>h e.symm) m)];rfl
theorem JF (z:Str):∀s:Sz,Jn (szD s) (Sum.inr z)=(look s z).map V.int
 |[]=>rfl
 |p :: s=>by
  show Jn ((Sum.inr p.1,V.int p.2) :: szD s) (Sum.inr z)=_;rw[Ze]
  by_cases e:p.1=z
  ·rw[J5 (by rw[e]),if_pos e];rfl
  ·rw[Xk (λh=>e (Sum.inr.inj h)),JF z s,if_neg e]
theorem YGx {s:Sz} (nd:(s.map (·.1)).Nodup) (z:Str) (n:Int):Zg (szD s) (Sum.inr z) (.int n)=szD (ZW s z n):=by
 induction s with
 |nil=>rfl
 |cons p s ih=>
  rw[YJO,YJo]at nd;unfold ZW
  by_cases e:p.1=z
  ·rw[if_pos e];have:Jn (szD (p :: s)) (Sum.inr z)=some (.int p.2):=by
    show Jn ((Sum.inr p.1,V.int p.2) :: szD s) (Sum.inr z)=_;rw[J5 (by rw[e])]
   unfold Zg;rw[YCQ,this,if_pos (show(some (V.int p.snd)).isSome=true from rfl)];show((Sum.inr p.1,V.int p.2) :: szD s).map _=(Sum.inr z,V.int n) :: szD s;rw[YJO];congr 1
   ·show(if (Sum.inr p.1:Key)=Sum.inr z then _ else _)=_;rw[if_pos (by rw[e]),e]
   ·refine(YJ8 λq hq=>?_).trans (List.map_id _);obtain⟨r,hr,rfl⟩:=YJM.mp hq;show(if (Sum.inr r.1:Key)=Sum.inr z then _ else _)=_;rw[if_neg]
    ·rfl
    ·intro h;exact nd.1 (by rw[e,<-Sum.inr.inj h];exact YJM.mpr ⟨r,hr,U⟩)
  ·rw[if_neg e];have ih:=ih nd.2;show Zg ((Sum.inr p.1,V.int p.2) :: szD s) (Sum.inr z) (.int n)=(Sum.inr p.1,V.int p.2) :: szD (ZW s z n);rw[<-ih];unfold Zg;have e1:(((Sum.inr p.1,V.int p.2) :: szD s).any λkv=>decide (kv.1=(Sum.inr z:Key)))=(szD s).any λkv=>decide (kv.1=(Sum.inr z:Key)):=by
    rw[List.any_cons,YI8 (λh=>e (Sum.inr.inj h))];rfl
   rw[e1];split
   ·rw[YJO];congr 1;show(if (Sum.inr p.1:Key)=Sum.inr z then _ else _)=_;rw[if_neg (λh=>e (Sum.inr.inj h))]
   ·rfl
def isQ (p:Str):Bool:=Txt.startswith p "'"
def Xb (s:Sz) (q:Int) (p:Str):Option Int:=if isQ p=true then some q else look s p
def Za (s:Sz) (q:Int):List Str->Int->Option Int
 |[],acc=>some acc
 |p :: ps,acc=>match Xb s q p with
  |none=>none
  |some m=>Za s q ps (acc + m)
def Zy (s:Sz) (q:Int) (ps:List Str):Option Int:=Za s q ps 1
def LeS (s' s:Sz):Prop:=∀z v,look s z=some v->∃v',look s' z=some v'/\v'<=v
theorem XM {s s':Sz}{q:Int} (h:LeS s' s):∀{ps:List Str}{a a' k:Int},a'<=a->Za s q ps a=some k->∃k',Za s' q ps a'=some k'/\k'<=k
 |[],a,a',k,ha,e=>by
  unfold Za at e ⊢;cases e;exact⟨_,U,ha⟩
 |p :: ps,a,a',k,ha,e=>by
  unfold Za at e ⊢;unfold Xb at e ⊢
  by_cases hq:isQ p=true
  ·rw[if_pos hq]at e ⊢;exact XM h (by lia) e
  ·rw[if_neg hq]at e ⊢;cases e1:look s p with
   |none=>rw[e1]at e;cases e
   |some v=>
    rw[e1]at e;obtain⟨v',e2,hv⟩:=h p v e1;rw[e2];exact XM h (show a' + v'<=a + v by lia) e
theorem YCo {s:Sz}{q B:Int} (hq:q<=B) (hs:∀z v,look s z=some v->v<=B):∀{ps:List Str}{a k:Int},Za s q ps a=some k->k<=a + ps.length * B
 |[],a,k,e=>by
  unfold Za at e;cases e;simp
 |p :: ps,a,k,e=>by
  unfold Za at e;cases e1:Xb s q p with
  |none=>rw[e1]at e;cases e
  |some m=>
   rw[e1]at e;have hm:m<=B:=by
    unfold Xb at e1;split at e1
    ·cases e1;exact hq
    ·exact hs p m e1
   have:=YCo hq hs e;rw[YJY,show(((ps.length + 1:Nat):Int)) * B=ps.length * B + B by rw[Int.natCast_add];show((ps.length:Int) + 1) * B=_;rw[Int.add_mul,Int.one_mul]]
   lia
theorem YFH {s:Sz}{q:Int} (hq:0<=q) (hs:∀z v,look s z=some v->0<=v):∀{ps:List Str}{a k:Int},Za s q ps a=some k->a<=k
 |[],a,k,e=>by
  unfold Za at e;cases e;exact YKR _
 |p :: ps,a,k,e=>by
  unfold Za at e;cases e1:Xb s q p with
  |none=>rw[e1]at e;cases e
  |some m=>
   rw[e1]at e;have hm:0<=m:=by
    unfold Xb at e1;split at e1
    ·cases e1;exact hq
    ·exact hs p m e1
   have:=YFH hq hs e
   lia
def bnd (q:Int) (n:Nat):Int:=(1 + 6 * q) * 7 ^ n
theorem YAs {q:Int} (hq:0<=q) (n:Nat):1 + 6 * q<=bnd q n:=by
 unfold bnd;have h1:(1:Int)<=7 ^ n:=Int.pow_pos (by decide:(0:Int) < 7);have:=Int.mul_le_mul_of_nonneg_left h1 (show 0<=1 + 6 * q by lia);rw[Int.mul_one]at this;exact this
theorem YCp (q:Int) (n:Nat):bnd q (n + 1)=7 * bnd q n:=by
 unfold bnd;rw[Int.pow_succ,<-Int.mul_assoc,Int.mul_comm]
theorem YCq {q:Int} (hq:0<=q) {m n:Nat} (h:m<=n):bnd q m<=bnd q n:=by
 induction h with
 |refl=>exact YKR _
 |step _ ih=>
  rename_i k _
  rw[YCp];have h2:=YAs hq k
  lia
structure JG (g:Ya) (q:Int) (s:Sz):Prop where
 nd:(s.map (·.1)).Nodup
 pos:∀z v,look s z=some v->1<=v
 bd:∀z v,look s z=some v->v<=bnd q s.length
 hd:∀z v,look s z=some v->∃r∈g,r.1=z/\∃m,Zy s q r.2.1=some m/\m<=v
def Fix (g:Ya) (q:Int) (s:Sz):Prop:=∀r∈g,∀m,Zy s q r.2.1=some m->∃v,look s r.1=some v/\v<=m
theorem YCC {κ:Type}:∀{l:List κ}{k:κ},l.Nodup->¬k∈l->(l ++ [k]).Nodup
 |[],k,_,_=>by simp
 |a :: r,k,h,hk=>by
  obtain⟨h1,h2⟩:=YJo.mp h;show(a :: (r ++ [k])).Nodup;refine YJo.mpr ⟨λm=>?_,YCC h2 λm=>hk (YJK.mpr (Or.inr m))⟩;rcases YJg.mp m with q |q
  ·exact h1 q
  ·exact hk (YJK.mpr (Or.inl (YJa.mp q).symm))
theorem YAA {xs ys:List Str} (h:xs.Nodup) (hs:∀x∈xs,x∈ys):xs.length<=ys.length:=by
 induction xs generalizing ys with
 |nil=>exact YJh _
 |cons x xs ih=>
  rw[YJo]at h;have hx:=hs x (YJI ..);have:=ih (ys:=ys.erase x) h.2 λy hy=>by
   have hne:y≠x:=λe=>h.1 (e ▸ hy)
   exact(List.mem_erase_of_ne hne).mpr (hs y (YJD _ hy))
  rw[List.length_erase_of_mem hx]at this;have hpos:=List.length_pos_of_mem hx;rw[YJY]
  lia
theorem JG.len {g:Ya}{q:Int}{s:Sz} (h:JG g q s):s.length<=g.length:=by
 have:=YAA (ys:=g.map (·.1)) h.nd λx hx=>by
  obtain⟨p,hp,rfl⟩:=YJM.mp hx;obtain⟨r,hr,e,_⟩:=h.hd p.1 p.2 (YEZ h.nd hp);rw[<-e];exact YJM.mpr ⟨r,hr,U⟩
 rwa [YI6,YI6]at this
def mu (g:Ya) (q:Int) (s:Sz):Nat:=(g.map λr=>match look s r.1 with
 |none=>(bnd q 60).toNat + 1
 |some v=>v.toNat).sum
theorem YGE {α:Type}{f f':α->Nat}:∀{l:List α},(∀x∈l,f' x<=f x)->(∃x∈l,f' x < f x)->(l.map f').sum < (l.map f).sum
 |[],_,⟨_,h,_⟩=>by cases h
 |a :: l,h,⟨x,hx,hlt⟩=>by
  rw[YJO,YJO,YKT,YKT];have ha:=h a (YJI ..);have hle:∀(l:List α),(∀x∈l,f' x<=f x)->(l.map f').sum<=(l.map f).sum:=by
   intro l
   induction l with
   |nil=>intro _;exact YJB _
   |cons b l ih=>
    intro h;rw[YJO,YJO,YKT,YKT];have h1:=h b (YJI ..);have h2:=ih λx hx=>h x (YJD _ hx)
    lia
  rcases YJK.mp hx with rfl |hx
  ·have:=hle l λx hx=>h x (YJD _ hx)
   lia
  ·have:=YGE (λx hx=>h x (YJD _ hx)) ⟨x,hx,hlt⟩
   lia
theorem YCD (s:Sz) (z:Str) (n:Int):(ZW s z n).length=if z∈s.map (·.1) then s.length else s.length + 1:=by
 have:=YJ2 List.length (Xs s z n);rw[YI6]at this;rw[this];split
 ·rw[YI6]
 ·rw[YJL,YI6];rfl
theorem JG.step {g:Ya}{q:Int}{s:Sz} (hg:Yz g=true) (hq:0<=q) (h:JG g q s) {r:Y5} (hr:r∈g) {m:Int} (hm:Zy s q r.2.1=some m) (hv:∀v,look s r.1=some v->m < v):
  JG g q (ZW s r.1 m)/\mu g q (ZW s r.1 m) < mu g q s:=by
 have jK:g.length<=60:=by
  unfold Yz at hg;rw[YJA]at hg;exact YJH hg.1
 have yN:r.2.1.length<=6:=by
  unfold Yz at hg;rw[YJA]at hg;have:=YJP.mp hg.2 r hr;unfold Yo at this;simp only[YJA,YJb]at this;exact this.2.1.1
 have hB:=YAs hq s.length;have hm1:1<=m:=YFH hq (λz v e=>YJn (by decide) (h.pos z v e)) hm;have hmB:m<=7 * bnd q s.length:=by
  have h1:=YCo (show q<=bnd q s.length by lia) h.bd hm;have h2:(r.2.1.length:Int) * bnd q s.length<=6 * bnd q s.length:=YJ0 (by lia) (by lia)
  lia
 have le:LeS (ZW s r.1 m) s:=λz v e=>by
  rw[ZM]
  by_cases hz:z=r.1
  ·rw[if_pos hz];have:=hv v (hz ▸ e);exact⟨m,U,by lia⟩
  ·rw[if_neg hz];exact⟨v,e,YKR _⟩
 have uR:((ZW s r.1 m).map (·.1)).Nodup:=by
  rw[Xs];split
  ·exact h.nd
  ·rename_i hn
   exact YCC h.nd hn
 have uq:m<=bnd q (ZW s r.1 m).length:=by
  rw[YCD];split
  ·rename_i hmem
   obtain⟨p,hp,e⟩:=YJM.mp hmem;have:=YEZ h.nd (z:=p.1) (n:=p.2) hp;rw[e]at this;have h1:=hv _ this;have h2:=h.bd _ _ this
   lia
  ·rw[YCp];exact hmB
 have lenle:s.length<=(ZW s r.1 m).length:=by
  rw[YCD];split <;> lia
 have tU:JG g q (ZW s r.1 m):=by
  refine⟨uR,λz v e=>?_,λz v e=>?_,λz v e=>?_⟩
  ·rw[ZM]at e;split at e
   ·cases e;exact hm1
   ·exact h.pos z v e
  ·rw[ZM]at e;split at e
   ·cases e;exact uq
   ·exact YJn (h.bd z v e) (YCq hq lenle)
  ·rw[ZM]at e;split at e
   ·rename_i hz
    cases e;obtain⟨k',e1,e2⟩:=XM le (YKR 1) hm;exact⟨r,hr,hz.symm,k',e1,e2⟩
   ·obtain⟨r',hr',e1,k,e2,e3⟩:=h.hd z v e;obtain⟨k',e4,e5⟩:=XM le (YKR 1) e2;exact⟨r',hr',e1,k',e4,by lia⟩
 refine⟨tU,?_⟩;have uD:bnd q (ZW s r.1 m).length<=bnd q 60:=YCq hq (YJR tU.len jK);have vI:m<=bnd q 60:=YJn uq uD;unfold mu;refine YGE (λx hx=>?_) ⟨r,hr,?_⟩
 ·rw[ZM]
  by_cases hz:x.1=r.1
  ·rw[if_pos hz,hz];cases e:look s r.1 with
   |none=>show m.toNat<=(bnd q 60).toNat + 1;lia
   |some v=>
    have:=hv v e;show m.toNat<=v.toNat
    lia
  ·rw[if_neg hz];exact YJB _
 ·rw[ZM,if_pos rfl];cases e:look s r.1 with
  |none=>show m.toNat < (bnd q 60).toNat + 1;lia
  |some v=>
   have:=hv v e;show m.toNat < v.toNat
   lia
theorem JG.nil (g:Ya) (q:Int):JG g q [] where
 nd:=YKY
 pos:=λz v e=>by cases e
 bd:=λz v e=>by cases e
 hd:=λz v e=>by cases e
end FR
namespace L2
open PySem PySem.Spec PyProof.Rows
section
variable {X:Cx}{pins:List (Addr×Obj)}{σ:St}{H:Hp}{s:Shared}{d:Addr}{o:Obj}{kvs:List (Key×V)}
end
section
variable {X:Cx}{lq:List Expr}{k:Nat}{mL:Pos}
end
end L2
namespace FR
open PySem L2
def unQ (ps:List Str):List Str:=ps.filter λp=>!isQ p
theorem YDx {s:Sz}{ps:List Str}:∀{a:Int},(∀p∈ps,isQ p=false->(look s p).isSome=true)->Za s 0 ps a=some (a + ((unQ ps).map λp=>(look s p).getD 0).sum):=by
 induction ps with
 |nil=>
  intro a _;show some a=some (a + 0);rw[Int.add_zero]
 |cons p ps ih=>
  intro a h;have ih:=λa=>ih (a:=a) λq hq=>h q (YJD _ hq)
  unfold Za Xb
  by_cases hq:isQ p=true
  ·rw[if_pos hq];show Za s 0 ps (a + 0)=_;rw[Int.add_zero,ih a];unfold unQ;rw[YJt,hq];rfl
  ·rw[if_neg hq];have hq':isQ p=false:=Bool.eq_false_iff.mpr hq;have hs:=h p (YJI ..) hq';cases e:look s p with
   |none=>rw[e]at hs;cases hs
   |some v=>
    show Za s 0 ps (a + v)=_;rw[ih (a + v)];unfold unQ;rw[YJt,hq'];show _=some (a + ((p :: ps.filter λp=>!isQ p).map λp=>(look s p).getD 0).sum);rw[YJO,YKT,e];show some (a + v + _)=some (a + (v + _));rw[Int.add_assoc]
theorem Zo {s:Sz} (hpos:∀z v,look s z=some v->1<=v) {ps:List Str}:∀{a k:Int},Za s 0 ps a=some k->a<=k/\∀p∈ps,isQ p=false->∃v,look s p=some v/\a + v<=k:=by
 induction ps with
 |nil=>
  intro a k e;unfold Za at e;cases e;exact⟨YKR _,λp hp=>by cases hp⟩
 |cons p ps ih=>
  intro a k e;unfold Za Xb at e
  by_cases hq:isQ p=true
  ·rw[if_pos hq]at e;obtain⟨h1,h2⟩:=ih (a:=a + 0) e;rw[Int.add_zero]at h1;refine⟨h1,λx hx hn=>?_⟩;rcases YJK.mp hx with rfl |hx
   ·rw[hq]at hn;cases hn
   ·obtain⟨v,e1,e2⟩:=h2 x hx hn;exact⟨v,e1,by lia⟩
  ·rw[if_neg hq]at e;cases e1:look s p with
   |none=>rw[e1]at e;cases e
   |some v=>
    rw[e1]at e;obtain⟨h1,h2⟩:=ih (a:=a + v) e;have hv:=hpos p v e1;refine⟨by lia,λx hx hn=>?_⟩;rcases YJK.mp hx with rfl |hx
    ·exact⟨v,e1,h1⟩
    ·obtain⟨v',e2,e3⟩:=h2 x hx hn;exact⟨v',e2,by lia⟩
end FR
namespace L2
open PySem PySem.Spec PyProof.Rows
end L2
namespace L2
open PySem PySem.Spec PyProof.Rows
section
variable {prog:Program}{w:World}{A:Around}{E:Value->Shared->Prop}{s:Shared}
end
end L2
namespace L2
open PySem PySem.Spec PyProof.Rows
section
variable {prog:Program}{w:World}{A:Around}{E:Value->Shared->Prop}{s:Shared}
end
end L2
namespace L2
open PySem PySem.Spec PyProof.Rows
section
variable {X:Cx}{tg:Expr}
end
end L2
namespace FR
open PySem L2
end FR
namespace L2
open PySem PySem.Spec PyProof.Rows
section
variable {prog:Program}{w:World}{A:Around}{E:Value->Shared->Prop}{s:Shared}
theorem YIl {α:Type}{Q:α->Shared->Prop}{E':Value->Shared->Prop} (hh:A.handled=none) (h:∀e h',(∀b o,s.heap.get? b=some o->h'.get? b=some o)->(∃o,h'.get? e=some o/\o.cls=.type "StopIteration")->E' (.ref e) { s with heap:=h' }):
  wpAny (model prog w) A (Builtin.SmallTypes.stopIteration:Sem α) Q E' s:=by
 unfold Builtin.SmallTypes.stopIteration;refine YJU ?_;simp only[newExc,newTuple];refine YJU (wpAny_newObj_type (YJU (m:=firstArgMember _ _) (wpAny_of_eq (a:=Value.none) (by first |rfl |(simp only[firstArgMember];rfl)) (wpAny_newObj_type ?_ (by size_fits)))) (by size_fits));simp only[raiseNew];refine YJU (wpAny_handled ?_);rw[hh];refine YJU (YJm (wpAny_throw (h _ _ (λb o e=>YI9 _ (YI9 _ e)) ?_)));exact⟨_,YJS _ rfl,U⟩
theorem YGF {it t:Addr}{i:Nat}{items:Array Value}{x:Value}{Q:Value->Shared->Prop} (hit:s.heap.IsTupleIter it t i) (ht:IsTup s.heap t items) (hx:items[i]?=some x)
  (hQ:∀h',h'.IsTupleIter it t (i + 1)->Heap.SameBut it s.heap h'->Q x { s with heap:=h' }):wpAny (model prog w) A (Builtin.SmallTypes.nextOf (.ref it)) Q E s:=by
 obtain⟨o,ho,hc,hd⟩:=id hit;obtain⟨ol,hol,_,nl,hdl⟩:=ht;unfold Builtin.SmallTypes.nextOf;refine YJU (wpAny_callSpecial?_slot (name:=Str.ofString "__next__") hit.typeIs F.slot_tuple_iterator_next (wpAny_call_entry F.slot_tuple_iterator_next hit.typeIs F.entry_tuple_iterator_next ?_ (F.args_tuple_iterator_next_1 _)));refine(show wpAny _ _ (field (.ref it) 0 >>= _) _ _ s from YJU (wpAny_field ho hd (x:=.ref t) rfl ?_));refine(show wpAny _ _ (if (Value.ref t == Value.none)=true then _ else _) _ _ s from ?_);rw[if_neg (show ¬(Value.ref t == Value.none)=true from YJT)];refine(show wpAny _ _ (field (.ref it) 1 >>= _) _ _ s from YJU (wpAny_field ho hd (x:=.int i 0) rfl ?_));refine(show wpAny _ _ (seqItems? (.ref t) >>= _) _ _ s from YJU (wpAny_seqItems hol hdl ?_));simp only[hx,Int.toNat_natCast];exact YJU (wpAny_setField ho hd (by simp) (YJm ⟨_,U,YJm (hQ _ ⟨_,Heap.get?_update_self _ ho (Obj.isFreed_of_fields (Obj.data_mapFields hd _)),(Obj.cls_mapFields ..).trans hc,by rw[Obj.data_mapFields hd];simp[rawInt]⟩ (Heap.SameBut.update ..))⟩))
theorem YCr {it t:Addr}{i:Nat}{items:Array Value}{Q:Value->Shared->Prop} (hh:A.handled=none) (hit:s.heap.IsTupleIter it t i) (ht:IsTup s.heap t items) (hx:items[i]?=none)
  (hE:∀h' e,Heap.ExtBut it s.heap h'->(∃o,h'.get? e=some o/\o.cls=.type "StopIteration")->E (.ref e) { s with heap:=h' }):wpAny (model prog w) A (Builtin.SmallTypes.nextOf (.ref it)) Q E s:=by
 obtain⟨o,ho,hc,hd⟩:=id hit;obtain⟨ol,hol,_,nl,hdl⟩:=ht;unfold Builtin.SmallTypes.nextOf;refine YJU (wpAny_callSpecial?_slot (name:=Str.ofString "__next__") hit.typeIs F.slot_tuple_iterator_next (wpAny_call_entry F.slot_tuple_iterator_next hit.typeIs F.entry_tuple_iterator_next ?_ (F.args_tuple_iterator_next_1 _)));refine(show wpAny _ _ (field (.ref it) 0 >>= _) _ _ s from YJU (wpAny_field ho hd (x:=.ref t) rfl ?_));refine(show wpAny _ _ (if (Value.ref t == Value.none)=true then _ else _) _ _ s from ?_);rw[if_neg (show ¬(Value.ref t == Value.none)=true from YJT)];refine(show wpAny _ _ (field (.ref it) 1 >>= _) _ _ s from YJU (wpAny_field ho hd (x:=.int i 0) rfl ?_));refine(show wpAny _ _ (seqItems? (.ref t) >>= _) _ _ s from YJU (wpAny_seqItems hol hdl ?_));simp only[hx,Int.toNat_natCast];refine YJU (wpAny_rule (YJU (wpAny_setField ho hd (by simp) (YIl (A:=A.in1) hh λe h' k he=>hE h' e (λb o' hb q=>k b o' ?_) he))));exact((Heap.SameBut.update ..).2 b hb).trans q
theorem YCs (l:Addr) (items:Array Value) (o:Obj) (n:Nat) (hc:o.cls=.type "tuple") (hd:o.data=.seq items n):
  Meets (Builtin.«enumerate.__new__» ⟨[.type "enumerate",.ref l],[]⟩) (λ_ R s=>s.heap.get? l=some o/\
   R (.ok (.ret (.ref (s.heap.push { cls:=.type "tuple_iterator",data:=.fields #[.ref l,.int 0 0] }).objs.size)))
    { s with heap:=(s.heap.push { cls:=.type "tuple_iterator",data:=.fields #[.ref l,.int 0 0] }).push { cls:=.type "enumerate",data:=.fields #[.none,.bool false,.ref s.heap.objs.size,rawInt 0,.none,.none] } }):=
 .of_wp λprog w A R s h=>by
  obtain⟨hp,g,d,tk,os⟩:=s;obtain⟨hl,h⟩:=h;have hsub:=sub_enumerate;have hL:Heap.IsTuple (Shared.heap ⟨hp,g,d,tk,os⟩) l items:=⟨o,hl,hc,n,hd⟩
  wp_walk using wpAny_loadPart' hl
  refine wpAny_stack_any λst=>YJm ?_
  split
  ·rename_i c _ _ _ _ _
   cases (c == Value.type "enumerate") <;> (wp_walk using wpAny_loadPart' hl,wpAny_pyIter_tuple hL;exact⟨_,U,h⟩)
  ·wp_walk using wpAny_loadPart' hl,wpAny_pyIter_tuple hL
   exact⟨_,U,h⟩
theorem YDy (hh:A.handled=none) (it l:Addr) (hne:l≠it) (items:Array Value):Draws prog w A it [it,l] items.size (λi v=>items[i]?=some v) (λi h=>h.IsTupleIter it l i/\IsTup h l items) where
 live:=λ_ _ st=>let ⟨o,ho,_⟩:=st.1;⟨o,ho⟩
 frame:=λ_ _ _ st hk=>by
  obtain⟨⟨o,a,b⟩,⟨o2,a2,b2⟩⟩:=st;exact⟨⟨o,hk it (by simp) o a,b⟩,⟨o2,hk l (by simp) o2 a2,b2⟩⟩
 item:=λi s Q E hi st hQ=>by
  refine YGF st.1 st.2 (x:=items[i]) (by simp[hi]) λh' hit' hs'=>?_
  obtain⟨o2,a2,b2⟩:=st.2;exact hQ _ h' s.toks (by simp[hi]) ⟨hit',o2,(hs'.2 l hne).trans a2,b2⟩ hs'
 done:=λs Q E st hE=>YCr hh st.1 st.2 (by simp) hE
theorem YDJ {l:Addr}{items:Array Value}{Q:Value->Shared->Prop} (hL:IsTup s.heap l items)
  (h:∀h',IsEnum h' (s.heap.objs.size + 1) s.heap.objs.size 0 .none->h'.IsTupleIter s.heap.objs.size l 0->(∀b o,s.heap.get? b=some o->h'.get? b=some o)->Q (.ref (s.heap.objs.size + 1)) { s with heap:=h' }):
  wpAny (model prog w) A (call (.type "enumerate") [.ref l]) Q E s:=by
 obtain⟨o,hl,hc,n,hd⟩:=hL;refine callType_new F.called_enumerate (by decide) (F.typeCall_enumerate_1 _) (F.newCall_enumerate_1 _) (λobj=>F.args_object_init_2 obj _) F.entry_enumerate_new (YCs l items o n hc hd) ⟨hl,?_⟩;have hz:(s.heap.push { cls:=.type "tuple_iterator",data:=.fields #[.ref l,.int 0 0] }).objs.size=s.heap.objs.size + 1:=YKZ ..;show _/\_;rw[hz];have he:IsEnum ((s.heap.push { cls:=.type "tuple_iterator",data:=.fields #[.ref l,.int 0 0] }).push { cls:=.type "enumerate",data:=.fields #[.none,.bool false,.ref s.heap.objs.size,rawInt 0,.none,.none] }) (s.heap.objs.size + 1) s.heap.objs.size 0 .none:=by
  have:=YJS (s.heap.push { cls:=.type "tuple_iterator",data:=.fields #[.ref l,.int 0 0] }) (o:={ cls:=.type "enumerate",data:=.fields #[.none,.bool false,.ref s.heap.objs.size,rawInt 0,.none,.none] }) rfl;rw[hz]at this;exact this
 exact⟨⟨_,he,U⟩,h _ he ⟨_,YI9 _ (YJS _ rfl),U,U⟩ λb o x=>YI9 _ (YI9 _ x)⟩
end
def IteT (K:W.Frag) (a:Addr):It:=
 ⟨λi H=>∃xs x,SqT K H a xs/\xs[i]?=some x,λi H v H'=>∃T,H T=none/\v=.ref T/\∀xs,SqT K H a xs->∃x,xs[i]?=some x/\H'=upd H T (.tup [.int i,x]),λi H=>∃xs,SqT K H a xs/\xs.length=i⟩
theorem YGG {P:Program}{w:World}{K:W.Frag}{lq:List Expr}{k:Nat}{pos:Pos} (a e it:Addr):
  YEu P w K (.Tuple lq k pos) (IteT K a) [e,it] e (λi h=>(∃old,IsEnum h e it (i:Nat) old)/\h.IsTupleIter it a i/\e≠it/\a≠e/\a≠it) where
 mem:=by simp
 obj:=λi h st b hb=>by
  obtain⟨⟨old,he⟩,⟨o,eo,c,d⟩,_⟩:=st;rcases YJK.mp hb with rfl |hb
  ·exact⟨_,he,λv z=>by cases z⟩
  ·have eb:b=it:=by simpa using hb
   subst eb;exact⟨o,eo,λv z=>by rw[d]at z;cases z⟩
 keep:=λi h h' st k=>by
  obtain⟨⟨old,he⟩,⟨o,eo,r⟩,hne⟩:=st;exact⟨⟨old,k e (by simp) _ he⟩,⟨o,k it (by simp) o eo,r⟩,hne⟩
 item:=by
  intro X hP hw hK hc i pins s σ H E I hf st hg;subst hP hw hK;obtain⟨⟨old,he⟩,hit,hne,uT,ur⟩:=st;obtain⟨xs,x,hq,hx⟩:=hg;obtain⟨its,rv,p,hz⟩:=I.tuple hq;obtain⟨u,hu,ru⟩:=rv.get hx;have hlt:i < its.toArray.size:=by
   rw[YJN];exact(YJe.mp hu).1
  have nef:e∉[it,a]:=by
   simp only[YJK,YJ5,or_false,not_or];exact⟨hne,uT.symm⟩
  refine wpAny_pyNext_enum_itemD (YDy (prog:=X.prog) (w:=X.w) (A:=X.A.in1) (I.ok.hd hc) it a ur its.toArray) he ⟨hit,p⟩ hlt hne nef λu' h' tk hPu ho hst hT hsz hk=>?_
  have eu:u'=u:=by
   have h1:its[i]?=some u':=by simpa using hPu
   rw[hu]at h1;exact(YJf h1).symm
  subst eu;refine⟨_,U,wpAny_letOwnedTupleGo_enum (s:={ s with heap:=h',toks:=tk + 1 }) ho λh'' he' hs'=>?_⟩;have uE:e < s.heap.objs.size:=YJJ he;have hTe:s.heap.objs.size≠e:=Nat.ne_of_gt uE;have kk:∀b o,b∉[e,it]->s.heap.get? b=some o->h''.get? b=some o:=λb o hb q=>by
   have h1:b≠e:=λz=>hb (by simp[z])
   have h2:b≠it:=λz=>hb (by simp[z])
   exact(hs'.2 b h1).trans (hk b o h1 h2 q)
  have I1:Inv X pins σ H { s with heap:=h'',toks:=tk + 1 }:=I.turns kk hf;have hT':h''.get? s.heap.objs.size=some { cls:=.type "tuple",data:=.seq #[.int i tk,u'] }:=(hs'.2 _ hTe).trans hT;have hfr:H s.heap.objs.size=none:=I.hok.fresh (YJB _);have I2:=I1.trackT (T:=s.heap.objs.size) (xs:=[.int i,x]) (its:=[.int i tk,u']) hfr ⟨_,hT',U,_,U⟩ (.cons ⟨_,U⟩ (.cons ru .nil)) (by show 2<=sizeLine;rw[sizeLine_eq];decide)
   (λo q=>absurd (YJJ q) (Nat.not_lt.mpr I.sz)) λp hp z=>absurd (YJJ (I.pin p hp).1) (by rw[z];exact YJw _)
  obtain⟨o3,e3,r3⟩:=hst.1;refine⟨.ref s.heap.objs.size,_,I2,U,⟨_,hfr,U,λys hy=>⟨x,by rw[I.tuple_inj hy hq];exact hx,U⟩⟩,⟨⟨_,by simpa using he'⟩,⟨o3,(hs'.2 it hne.symm).trans e3,r3⟩,hne,uT,ur⟩,λb hb=>?_⟩;obtain⟨o,eo,_⟩:∃o,s.heap.get? b=some o/\True:=by
   rcases YJK.mp hb with rfl |hb
   ·exact⟨_,he,trivial⟩
   ·have eb:b=it:=by simpa using hb
    subst eb;obtain⟨o,eo,_⟩:=hit;exact⟨o,eo,trivial⟩
  rw[YN (YJc (YJJ eo))];exact(hf b hb).1
 done:=by
  intro X hP hw hK hc i pins s σ H E I hf st hg;subst hP hw hK;obtain⟨⟨old,he⟩,hit,hne,uT,ur⟩:=st;obtain⟨xs,hq,hx⟩:=hg;obtain⟨its,rv,p,hz⟩:=I.tuple hq;have hl:=rv.length;have ei:i=its.toArray.size:=by rw[YJN];lia
  subst ei;exact wpAny_pyNext_enum_endD (YDy (prog:=X.prog) (w:=X.w) (A:=X.A.in1) (I.ok.hd hc) it a ur its.toArray) he ⟨hit,p⟩ λh' eb=>⟨U,I.turns (t':=s.toks) (λb o hb q=>eb b o (λz=>hb (by simp[z])) q) hf⟩
 self:=λ_ _ _ _ _ st h=>by
  obtain⟨⟨old,he⟩,_⟩:=st;exact wpAny_pyIter_enum he h
section
variable {X:Cx}{lq:List Expr}{k:Nat}{mL:Pos}
def iEnumT (K:W.Frag) (ta:TA):TI:=λσ H R=>ta σ H λvs H1=>∃a,vs=[.ref a]/\(∃xs,SqT K H1 a xs)/\R (IteT K a) H1
theorem YIm (K:W.Frag) (hK:X.K=K) {a:Expr}{ta:TA}{p pos:Pos} (hg:Gl X "enumerate") (hm:X.mg "enumerate"=none) (ha:PA X [a] ta) (hs:starEach [a] X.env=[(false,eval a X.env)]:=by rfl):
  PI X (.Tuple lq k mL) (.Call (.Name "enumerate" p) [a] [] pos) (iEnumT K ta):=by
 subst hK;intro pins s σ H R I h;refine Call_ (YAQ I hg hm PyProof.Rows.Boot.«enumerate» (PyProof.Rows.callWith_type1 (thn (ha pos pins s σ H _ I h) λus s1 ⟨vs,H1,I1,r1,q1⟩=>?_) hs rfl));obtain⟨l,rfl,⟨xs,hq⟩,q⟩:=q1;obtain⟨u,rfl,ru⟩:=Jo r1;cases ru;obtain⟨its,rv,pl,hz⟩:=I1.tuple hq;have hll:l < s1.heap.objs.size:=pl.lt;refine YDJ pl λh' he hit hk=>?_
 have I2:Inv X pins σ H1 { s1 with heap:=h' }:=I1.kept (t':=s1.toks) hk;refine wpAny_pyIter_enum he ?_;refine⟨s1.heap.objs.size + 1,[s1.heap.objs.size + 1,s1.heap.objs.size],_,_,H1,U,I2,YGG l _ _,⟨⟨_,by simpa using he⟩,hit,Nat.succ_ne_self _,YJc (Nat.lt_succ_of_lt hll),YJc hll⟩,λb hb=>?_,q⟩;rcases YJK.mp hb with rfl |hb
 ·exact I1.fpOk (YKP _) (I1.hok.fresh (YKP _))
 ·have eb:b=s1.heap.objs.size:=by simpa using hb
  subst eb;exact I1.fpOk (YJB _) (I1.hok.fresh (YJB _))
end
theorem YFI {K:W.Frag}{a:Addr}{xs:List V}{g:TG}{tb:TS}{D:YAP}{σ:St}{H:Hp} (Pv:Nat->St->Hp->Prop) (h0:Pv 0 σ H) (hl:∀i σ H,i<=xs.length->Pv i σ H->SqL K H a xs)
  (hs:∀i x T σ H,xs[i]?=some x->H T=none->Pv i σ H->g (.ref T) σ (upd H T (.tup [.int (i:Nat),x])) λσ2 H2=>tb { D with nx:=Pv (i + 1),ct:=Pv (i + 1),bk:=D.nx } σ2 H2) (hd:∀σ H,Pv xs.length σ H->D.nx σ H):
  ∃W:Nat->Nat->St->Hp->Prop,(∃m,W 0 m σ H)/\∀i m σ H,W i m σ H->
   ((Ite K a).stop i H/\D.nx σ H)\/((Ite K a).go i H/\∃N:St->Hp->Prop,(∀σ' H',N σ' H'->∃m',m' < m/\W (i + 1) m' σ' H')/\∀x H',(Ite K a).yld i H x H'->g x σ H' λσ2 H2=>tb { D with nx:=N,ct:=N,bk:=D.nx } σ2 H2):=by
 refine⟨λi m σ H=>m=xs.length - i/\i<=xs.length/\Pv i σ H,⟨xs.length,by simp,YJh _,h0⟩,?_⟩;rintro i m σ H ⟨rfl,hi,p⟩;have q:=hl i σ H hi p
 by_cases hlt:i < xs.length
 ·refine .inr ⟨⟨xs,xs[i],q,by simp[hlt]⟩,Pv (i + 1),λσ' H' p'=>⟨xs.length - (i + 1),by lia,U,hlt,p'⟩,λx H' y=>?_⟩;obtain⟨T,hT,rfl,k⟩:=y;obtain⟨x,hx,rfl⟩:=k xs q;exact hs i x T σ H hx hT p
 ·have e:i=xs.length:=by lia
  subst e;exact .inl ⟨⟨xs,q,YJB _⟩,hd σ H p⟩
theorem YHh {K:W.Frag}{a:Addr}{xs:List V}{g:TG}{tb:TS}{D:YAP}{σ:St}{H:Hp} (Pv:Nat->St->Hp->Prop) (h0:Pv 0 σ H) (hl:∀i σ H,i<=xs.length->Pv i σ H->SqT K H a xs)
  (hs:∀i x T σ H,xs[i]?=some x->H T=none->Pv i σ H->g (.ref T) σ (upd H T (.tup [.int (i:Nat),x])) λσ2 H2=>tb { D with nx:=Pv (i + 1),ct:=Pv (i + 1),bk:=D.nx } σ2 H2) (hd:∀σ H,Pv xs.length σ H->D.nx σ H):
  ∃W:Nat->Nat->St->Hp->Prop,(∃m,W 0 m σ H)/\∀i m σ H,W i m σ H->
   ((IteT K a).stop i H/\D.nx σ H)\/((IteT K a).go i H/\∃N:St->Hp->Prop,(∀σ' H',N σ' H'->∃m',m' < m/\W (i + 1) m' σ' H')/\∀x H',(IteT K a).yld i H x H'->g x σ H' λσ2 H2=>tb { D with nx:=N,ct:=N,bk:=D.nx } σ2 H2):=by
 refine⟨λi m σ H=>m=xs.length - i/\i<=xs.length/\Pv i σ H,⟨xs.length,by simp,YJh _,h0⟩,?_⟩;rintro i m σ H ⟨rfl,hi,p⟩;have q:=hl i σ H hi p
 by_cases hlt:i < xs.length
 ·refine .inr ⟨⟨xs,xs[i],q,by simp[hlt]⟩,Pv (i + 1),λσ' H' p'=>⟨xs.length - (i + 1),by lia,U,hlt,p'⟩,λx H' y=>?_⟩;obtain⟨T,hT,rfl,k⟩:=y;obtain⟨x,hx,rfl⟩:=k xs q;exact hs i x T σ H hx hT p
 ·have e:i=xs.length:=by lia
  subst e;exact .inl ⟨⟨xs,q,U⟩,hd σ H p⟩
end L2
namespace FR
open PySem L2
def Sized (s:Sz) (r:Y5):Prop:=∃m,Zy s 0 r.2.1=some m
inductive YAM (g:Ya) (s:Sz) (z0:Str):Str->Prop
 |start:YAM g s z0 z0
 |step {r:Y5}{p:Str}:r∈g->Sized s r->YAM g s z0 r.1->p∈r.2.1->isQ p=false->YAM g s z0 p
def YEa (g:Ya) (s:Sz) (k:Nat):Prop:=∃r r0 Ye,g=r0 :: Ye/\g[k]?=some r/\Sized s r/\YAM g s r0.1 r.1
def Je (s o:Sz) (r:Y5) (p:Str):Prop:=∀m h sp,Zy s 0 r.2.1=some m->look o r.1=some h->isQ p=false->look s p=some sp->∃v,look o p=some v/\v<=h + m - sp
structure Xt (g:Ya) (s:Sz) (z0:Str) (o:Sz):Prop where
 nd:(o.map (·.1)).Nodup
 has:look o z0=some 0
 nn:∀z v,look o z=some v->0<=v
 bd:∀z v,look o z=some v->v<=o.length * bnd 0 61
 rch:∀z v,look o z=some v->YAM g s z0 z
def YCE (g:Ya) (s o:Sz):Prop:=∀r∈g,∀p∈r.2.1,Je s o r p
theorem YIn {g:Ya}{s:Sz} (hg:Yz g=true) (h:JG g 0 s) {r:Y5} (hr:r∈g) {m:Int} (e:Zy s 0 r.2.1=some m):1<=m/\m<=bnd 0 61:=by
 have jK:g.length<=60:=by
  unfold Yz at hg;rw[YJA]at hg;exact YJH hg.1
 have yN:r.2.1.length<=6:=by
  unfold Yz at hg;rw[YJA]at hg;have:=YJP.mp hg.2 r hr;unfold Yo at this;simp only[YJA,YJb]at this;exact this.2.1.1
 have h1:=(Zo h.pos e).1;have hB:=YAs (q:=0) (by decide) s.length;have h2:=YCo (q:=0) (B:=bnd 0 s.length) (by omega) h.bd e;have h3:(r.2.1.length:Int) * bnd 0 s.length<=6 * bnd 0 s.length:=YJ0 (by omega) (by omega);have h4:bnd 0 (s.length + 1)<=bnd 0 61:=YCq (by decide) (by have:=h.len;omega);rw[YCp]at h4;omega
theorem YAM.head {g:Ya}{s:Sz}{z0:Str} (h:JG g 0 s) (h0:z0∈g.map (·.1)) {z:Str} (r:YAM g s z0 z):z∈g.map (·.1):=by
 cases r with
 |start=>exact h0
 |@step r p hr hs _ hp hq=>
  obtain⟨m,e⟩:=hs;obtain⟨v,e2,_⟩:=(Zo h.pos e).2 z hp hq;obtain⟨r',hr',e3,_⟩:=h.hd z v e2;rw[<-e3];exact YJM.mpr ⟨r',hr',U⟩
theorem Xt.len {g:Ya}{s:Sz}{z0:Str}{o:Sz} (h:JG g 0 s) (h0:z0∈g.map (·.1)) (w:Xt g s z0 o):o.length<=g.length:=by
 have:=YAA (ys:=g.map (·.1)) w.nd λx hx=>by
  obtain⟨p,hp,rfl⟩:=YJM.mp hx;exact(w.rch p.1 p.2 (YEZ w.nd hp)).head h h0
 rwa [YI6,YI6]at this
def mu2 (g:Ya) (o:Sz):Nat:=(g.map λr=>match look o r.1 with
 |none=>(61 * bnd 0 61).toNat + 1
 |some v=>v.toNat).sum
theorem Xt.first (g:Ya) (s:Sz) (z0:Str):Xt g s z0 [(z0,0)]:=by
 have hl:∀z v,look [(z0,(0:Int))] z=some v->z=z0/\v=0:=λz v e=>by
  rw[Ze]at e
  by_cases hz:z0=z
  ·rw[if_pos hz]at e;cases e;exact⟨hz.symm,U⟩
  ·rw[if_neg hz]at e;cases e
 have hb:=YAs (q:=0) (by decide) 61;refine⟨by simp,by rw[Ze,if_pos rfl],λz v e=>?_,λz v e=>?_,λz v e=>?_⟩
 ·rw[(hl z v e).2];exact YKR _
 ·rw[(hl z v e).2];show(0:Int)<=((1:Nat):Int) * _;omega
 ·rw[(hl z v e).1];exact .start
theorem Xt.step {g:Ya}{s:Sz}{z0:Str}{o:Sz} (hg:Yz g=true) (hs:JG g 0 s) (h0:z0∈g.map (·.1)) (w:Xt g s z0 o) {r:Y5} (hr:r∈g) {p:Str} (hp:p∈r.2.1) (hq:isQ p=false) {m h sp:Int} (em:Zy s 0 r.2.1=some m)
  (eh:look o r.1=some h) (ep:look s p=some sp) (hv:∀v,look o p=some v->h + m - sp < v):Xt g s z0 (ZW o p (h + m - sp))/\mu2 g (ZW o p (h + m - sp)) < mu2 g o:=by
 have jK:g.length<=60:=by
  unfold Yz at hg;rw[YJA]at hg;exact YJH hg.1
 have hm:=YIn hg hs hr em;have hsp:1 + sp<=m:=by
  obtain⟨v,e1,e2⟩:=(Zo hs.pos em).2 p hp hq;rw[ep]at e1;cases e1;omega
 have yx:=hs.pos _ _ ep;have hh:=w.nn _ _ eh;have hhb:=w.bd _ _ eh;have hB:=YAs (q:=0) (by decide) 61;have hpos:1<=h + m - sp:=by omega
 have uU:p≠z0:=λz=>by
  have:=hv 0 (by rw[z];exact w.has);omega
 have mY:YAM g s z0 p:=.step hr ⟨m,em⟩ (w.rch _ _ eh) hp hq;have lenle:o.length<=(ZW o p (h + m - sp)).length:=by
  rw[YCD];split <;> omega
 have uq:h + m - sp<=(ZW o p (h + m - sp)).length * bnd 0 61:=by
  rw[YCD];split
  ·rename_i hmem
   obtain⟨v,e1⟩:∃v,look o p=some v:=by
    cases e:look o p with
    |some v=>exact⟨v,U⟩
    |none=>exact absurd hmem (YHg e)
   have h1:=hv v e1;have h2:=w.bd _ _ e1;omega
  ·rw[Int.natCast_add,Int.add_mul];show _<=_ + (1:Int) * _;rw[Int.one_mul];omega
 have tU:Xt g s z0 (ZW o p (h + m - sp)):=by
  refine⟨?_,?_,λz v e=>?_,λz v e=>?_,λz v e=>?_⟩
  ·rw[Xs];split
   ·exact w.nd
   ·rename_i hn
    exact YCC w.nd hn
  ·rw[ZM,if_neg uU.symm];exact w.has
  ·rw[ZM]at e;split at e
   ·cases e;omega
   ·exact w.nn z v e
  ·rw[ZM]at e;split at e
   ·cases e;exact uq
   ·have h1:=w.bd z v e;have h2:(o.length:Int) * bnd 0 61<=((ZW o p (h + m - sp)).length:Int) * bnd 0 61:=YJ0 (by omega) (by omega);omega
  ·rw[ZM]at e;split at e
   ·rename_i hz
    rw[hz];exact mY
   ·exact w.rch z v e
 refine⟨tU,?_⟩;obtain⟨r',hr',e3⟩:=YJM.mp (mY.head hs h0);have hlen:=tU.len hs h0;have yz:h + m - sp<=61 * bnd 0 61:=by
  have h2:((ZW o p (h + m - sp)).length:Int) * bnd 0 61<=61 * bnd 0 61:=YJ0 (by omega) (by omega);omega
 unfold mu2;refine YGE (λx hx=>?_) ⟨r',hr',?_⟩
 ·rw[ZM]
  by_cases hz:x.1=p
  ·rw[if_pos hz,hz];cases e:look o p with
   |none=>show(h + m - sp).toNat<=(61 * bnd 0 61).toNat + 1;omega
   |some v=>
    have:=hv v e;show(h + m - sp).toNat<=v.toNat;omega
  ·rw[if_neg hz];exact YJB _
 ·have e3:r'.1=p:=e3;rw[ZM,if_pos e3,e3];cases e:look o p with
  |none=>show(h + m - sp).toNat < (61 * bnd 0 61).toNat + 1;omega
  |some v=>
   have:=hv v e;show(h + m - sp).toNat < v.toNat;omega
theorem YGH {g:Ya}{s:Sz}{z0:Str}{o:Sz} (hs:JG g 0 s) (w:Xt g s z0 o) (f:YCE g s o) {z:Str} (h:YAM g s z0 z):∃v,look o z=some v:=by
 induction h with
 |start=>exact⟨0,w.has⟩
 |@step r p hr hsz _ hp hq ih=>
  obtain⟨h,eh⟩:=ih;obtain⟨m,em⟩:=hsz;obtain⟨sp,e1,_⟩:=(Zo hs.pos em).2 p hp hq;obtain⟨v,e2,_⟩:=f r hr p hp m h sp em eh hq e1;exact⟨v,e2⟩
theorem YHi {g:Ya}{s:Sz} (f:Fix g 0 s) {r0:Y5}{Ye:Ya} (e:g=r0 :: Ye) (hn:look s r0.1=none) (k:Nat):¬YEa g s k:=by
 have key:∀z,YAM g s r0.1 z->z=r0.1:=λz h=>by
  induction h with
  |start=>rfl
  |@step r p hr hsz _ hp hq ih=>
   obtain⟨m,em⟩:=hsz;obtain⟨v,e2,_⟩:=f r hr m em;rw[ih,hn]at e2;cases e2
 rintro⟨r,r1,lX,e1,er,⟨m,em⟩,tM⟩;rw[e]at e1;cases e1;obtain⟨v,e2,_⟩:=f r (YJF er) m em;rw[key _ tM,hn]at e2;cases e2
theorem YFJ:∀{a b:List Nat},a.Pairwise (· < ·)->b.Pairwise (· < ·)->(∀k,k∈a<->k∈b)->a=b
 |[],[],_,_,_=>rfl
 |[],y :: ys,_,_,h=>absurd ((h y).mpr (YJI ..)) (by simp)
 |x :: xs,[],_,_,h=>absurd ((h x).mp (YJI ..)) (by simp)
 |x :: xs,y :: ys,ha,hb,h=>by
  rw[List.pairwise_cons]at ha hb;have e:x=y:=by
   rcases YJK.mp ((h x).mp (YJI ..)) with e |h1
   ·exact e
   ·rcases YJK.mp ((h y).mpr (YJI ..)) with e |h2
    ·exact e.symm
    ·have:=ha.1 y h2;have:=hb.1 x h1;omega
  subst e;congr 1;refine YFJ ha.2 hb.2 λk=>?_
  constructor
  ·intro hk;rcases YJK.mp ((h k).mp (YJD _ hk)) with e |h1
   ·have:=ha.1 k hk;omega
   ·exact h1
  ·intro hk;rcases YJK.mp ((h k).mpr (YJD _ hk)) with e |h1
   ·have:=hb.1 k hk;omega
   ·exact h1
end FR
namespace L2
open PySem PySem.Spec PyProof.Rows
section
variable {X:Cx}{pins:List (Addr×Obj)}{σ:St}{H:Hp}{s:Shared}{a b:Addr}{kvs:List (List Key×V)}{k:List Key}{u r:Value}{v:V}{A:Around}{E:Value->Shared->Prop}
end
section
variable {X:Cx}{o e f:Expr}{bZ aU:Pos}{td ty tx:TE}
end
end L2
namespace L2
open PySem PySem.Spec PyProof.Rows
def Dn (K:W.Frag) (x:Str) (f:Addr):Prop:=PySem.W.nsIn K mainGlobals x=some (some (.ref f))
def Zn (K:W.Frag) (x:Str):Prop:=PySem.W.nsIn K mainGlobals x=some none
def On (K:W.Frag) (c:Addr) (x:Str):Prop:=PySem.W.findIn K (.ref c) x=some none
inductive An (K:W.Frag) (c:Addr) (x:Str) (f:Addr):Prop
 |mk:PySem.W.findIn K (.ref c) x=some (some (.ref f))->PySem.W.isFn K (.ref f)=true->An K c x f
inductive Ln (K:W.Frag) (x q:Str) (st:Stmt) (f:Addr):Prop
 |mk {oc:Value}{od an:Option Addr}{osl:Array (Option Value)}{kV doc pm aB ct:Value}:K.lookup f=some ⟨oc,od,.func (PySem.W.fnOf x q (JC st) (Zc st) (YG st) .none kV doc pm an aB ct),osl⟩->PySem.W.codeIn K aB q=true->PySem.W.keepIn K (.ref f)=true->Ln K x q st f
theorem Ln.ex {K:W.Frag}{x q:Str}{st:Stmt}{f:Addr}:Ln K x q st f->∃fd,Fun K x q st f fd
 |.mk l c k=>⟨_,YIG l c k⟩
def Pn:Nat->(List Value->Prop)->Prop
 |0,P=>P []
 |n + 1,P=>∀a,Pn n λus=>P (a :: us)
theorem bn:∀(n:Nat) {P:List Value->Prop},Pn n P->∀us:List Value,us.length=n->P us
 |0,_,h,[],_=>h
 |0,_,_,_ :: _,e=>by cases e
 |_ + 1,_,_,[],e=>by cases e
 |n + 1,_,h,a :: us,e=>bn n (h a) us (Nat.succ.inj e)
section
variable (P:Program) (w:World) {K:W.Frag}{mg:Str->Option Value}{CX:CXT}{k:Nat}{x q:Str}{st:Stmt}{C f:Addr}{fd:FuncData}{ps:List Str}{sp:Sp}
theorem us (m:mg x=some (.ref f)) (F:Fun K x q st f fd) (o:∀base,Yv P w K mg base CX k f fd ps sp) (b:∀(kV doc pm:Value) (an:Option Addr) (aB ct:Value) (us:List Value),us.length=ps.length->bindArgs (PySem.W.fnOf x q (JC st) (Zc st) (YG st) .none kV doc pm an aB ct) ⟨us,[]⟩=pure (ps.zip us)):Y6 P w K mg CX k x ps sp:=⟨⟨f,fd,o,m,F.kp,F.binds b⟩⟩
theorem usM (a:An K C x f) (F:Fun K x q st f fd) (o:∀base,Yv P w K mg base CX k f fd ps sp) (b:∀(kV doc pm:Value) (an:Option Addr) (aB ct:Value) (us:List Value),us.length=ps.length->bindArgs (PySem.W.fnOf x q (JC st) (Zc st) (YG st) .none kV doc pm an aB ct) ⟨us,[]⟩=pure (ps.zip us)):YGi P w K mg CX k C x ps sp:=by
 cases a with
 |mk a j=>exact⟨⟨f,fd,o,⟨a,j,F.kp⟩,F.binds b⟩⟩
theorem usI (h1:PySem.W.makesIn K C=true) (h2:PySem.W.keepIn K (.ref C)=true) (a:An K C "__init__" f) (F:Fun K x q st f fd) (o:∀base,Yv P w K mg base CX k f fd ps sp) (b:∀(kV doc pm:Value) (an:Option Addr) (aB ct:Value) (us:List Value),us.length=ps.length->bindArgs (PySem.W.fnOf x q (JC st) (Zc st) (YG st) .none kV doc pm an aB ct) ⟨us,[]⟩=pure (ps.zip us)):UsedI P w K mg CX k C ps sp:=by
 cases a with
 |mk a j=>exact⟨⟨f,fd,o,⟨h1,a,j,h2⟩,F.binds b⟩⟩
end
end L2
namespace L2
open PySem PySem.Spec PyProof.Rows
section
variable {X:Cx}
def YDz (p:Str×Str×Str):HO:=.tup [.str p.1,.str p.2.1,.str p.2.2]
theorem YBO:MtR X "str.partition" (λx vs H Q=>∃z y,x=.str z/\vs=[.str y]/\(y.length == 0)=false/\z.length<=sizeLine/\∀t,H t=none->Q (.ref t) (L2.upd H t (YDz (Txt.partition z y)))):=by
 intro pins s σ H x xs v us Q I rx rs h;obtain⟨z,y,rfl,rfl,hy,hsz,q⟩:=h;obtain⟨t,rfl⟩:=rx;obtain⟨u,rfl,t',rfl⟩:=rs.one;have fin:∀(p:Str×Str×Str) (ta tb tc:Tok) (k:Nat),p=Txt.partition z y->EP X pins σ Q (.ref s.heap.objs.size) { s with toks:=k,heap:=s.heap.push { cls:=.type "tuple",data:=.seq [.str p.1 ta,.str p.2.1 tb,.str p.2.2 tc].toArray } }:=λp ta tb tc k e=>by
  refine⟨.ref s.heap.objs.size,_,I.laid (t':=k) (h':=s.heap.push { cls:=.type "tuple",data:=.seq [.str p.1 ta,.str p.2.1 tb,.str p.2.2 tc].toArray }) (λb o e=>YI9 _ e) (YJB _) (show Yy X.prog X.w _ _ _ (YDz p) from⟨by show 3<=sizeLine;rw[sizeLine_eq];decide,[.str p.1 ta,.str p.2.1 tb,.str p.2.2 tc],.cons ⟨_,U⟩ (.cons ⟨_,U⟩ (.cons ⟨_,U⟩ .nil)),?_⟩),U,?_⟩
  ·exact IsTup.new _ _
  ·rw[e];exact q _ (I.hok.fresh (YJB _))
 refine call_meets F.slot_str_partition (typeIs_str _ _ _) F.entry_str_partition (F.args_str_partition_2 _ _) (meets_str_partition z y t t' hy hsz) ?_;have fin':=fin;unfold Txt.partition at fin';revert fin';cases Builtin.Str.occurrences z y 0 z.length 1 with
 |nil=>intro f;exact f _ _ _ _ _ rfl
 |cons i r=>intro f;exact f _ _ _ _ _ rfl
open Builtin Builtin.Str in
theorem YDK:MtR X "str.split" (λx vs H Q=>∃z y k,x=.str z/\vs=[.str y,.int k]/\(y.length == 0)=false/\(0<=k/\k<=1000)/\z.length + 2<=sizeLine/\∀l,H l=none->Q (.ref l) (L2.upd H l (.lst ((Txt.splitMax z y k).map V.str)))):=by
 intro pins s σ H x xs v us Q I rx rs h;obtain⟨z,y,k,rfl,rfl,hy,⟨hk0,hk1⟩,hsz,q⟩:=h;obtain⟨t,rfl⟩:=rx;obtain⟨u,u2,rfl,⟨t',rfl⟩,⟨t2,rfl⟩⟩:=vals2 rs;have hk:(decide (k < -(2 ^ 63:Int)) || decide (k>=2 ^ 63))=false:=by
  rw[YI8 (by lia),YI8 (by lia)];rfl
 have hn:(partsBetween z (occurrences z y 0 z.length (limitOf z k)) y.length).length<=sizeLine:=by
  have e1:=StrLaws.occ_length_le z y 0 z.length (limitOf z k);have e2:limitOf z k<=1000:=by
   unfold limitOf;rw[if_neg (by lia)]
   lia
  have e3:2000<=sizeLine:=by rw[sizeLine_eq];decide
  rw[length_partsBetween]
  lia
 have fin:∀(l:List (Str×Tok)) (j:Nat),l.map (·.1)=Txt.splitMax z y k->l.length<=sizeLine->EP X pins σ Q (.ref s.heap.objs.size) { s with heap:=s.heap.push { cls:=.type "list",data:=.seq (strValues l).toArray },toks:=j }:=λl j e hl=>by
  refine⟨.ref s.heap.objs.size,_,I.laid (t':=j) (h':=s.heap.push { cls:=.type "list",data:=.seq (strValues l).toArray }) (λb o e=>YI9 _ e) (YJB _) (show Yy X.prog X.w _ _ _ (.lst ((Txt.splitMax z y k).map V.str)) from⟨?_,strValues l,0,?_,YJS _ rfl⟩),U,q _ (I.hok.fresh (YJB _))⟩
  ·rw[<-e,YI6,YI6];exact hl
  ·rw[<-e];exact YBH l
 cases h1:(decide (z.length < y.length) || decide (strKind z < strKind y))
 ·cases hf:(occurrences z y 0 z.length (limitOf z k)).isEmpty
  ·refine call_meets F.slot_str_split (typeIs_str _ _ _) F.entry_str_split (F.args_str_split_3 _ _ _) (meets_str_split_sep_max z y k t t' t2 hk h1 hy hf (by lia) hn) ?_;show wants _ X.xe _ { s with toks:=_,heap:=s.heap.push { cls:=.type "list",data:=.seq (strsFrom s.toks (partsBetween z (occurrences z y 0 z.length (limitOf z k)) y.length)).toArray } };rw[strsFrom_eq];refine fin (numbered s.toks _) _ ((numbered_texts _ _).trans ((if_neg (ne_true_of_eq_false h1)).trans (if_neg (ne_true_of_eq_false hf))).symm) ?_;have:=YJ2 List.length (numbered_texts s.toks (partsBetween z (occurrences z y 0 z.length (limitOf z k)) y.length));rw[YI6]at this
   lia
  ·exact call_meets F.slot_str_split (typeIs_str _ _ _) F.entry_str_split (F.args_str_split_3 _ _ _) (meets_str_split_max_not_found z y k t t' t2 hk h1 hy hf)
    (fin [(z,t)] s.toks ((if_neg (ne_true_of_eq_false h1)).trans (if_pos hf)).symm (by show 1<=sizeLine;lia))
 ·exact call_meets F.slot_str_split (typeIs_str _ _ _) F.entry_str_split (F.args_str_split_3 _ _ _) (meets_str_split_max_cannot_occur z y k t t' t2 hk h1)
   (fin [(z,t)] s.toks (if_pos h1).symm (by show 1<=sizeLine;lia))
end
end L2
namespace L2
open PySem PySem.Spec PyProof.Rows
structure OwnD (P:Program) (w:World) (K:W.Frag) (a:Addr) (kvs:List (Key×V)):Prop where
 lo:(a == sysModules)=false
 di:∃vs,KV kvs vs/\∀h:Heap,K.In h->h.DictOf (Y0 P w) a vs
theorem YBm:∀{l:List Str},l.Nodup->(l.map (Sum.inr:Str->Key)).Nodup
 |[],_=>YKY
 |a :: l,h=>by
  rw[YJO,YJo];rw[YJo]at h;refine⟨λm=>?_,YBm h.2⟩;obtain⟨b,hb,e⟩:=YJM.mp m;cases e;exact h.1 hb
theorem OwnD.of {P:Program}{w:World}{K:W.Frag}{a:Addr}{ep:Nat} (rows:List (Str×Tok×Addr))
  (h:K.lookup a=some ⟨.type "dict",none,.dict (rows.map λx=>(⟨PyData.keyHash w.params x.1,.str x.1 x.2.1,.ref x.2.2⟩:DictEntry)).toArray ep,#[]⟩) (lo:(a == sysModules)=false) (nd:(rows.map (·.1)).Nodup):
  OwnD P w K a (rows.map λx=>(Sum.inr x.1,V.ref x.2.2)):=by
 refine⟨lo,rows.map λx=>(Sum.inr x.1,Value.ref x.2.2),?_,λh' X=>⟨_,_,_,X a _ h,⟨U,U,U⟩,U,?_,?_,?_⟩⟩
 ·clear h nd
  induction rows with
  |nil=>exact .nil
  |cons x r ih=>exact .cons ⟨U,U⟩ ih
 ·intro e he;have he:e∈rows.map λx=>(⟨PyData.keyHash w.params x.1,.str x.1 x.2.1,.ref x.2.2⟩:DictEntry):=List.mem_toArray.mp he
  obtain⟨x,hx,rfl⟩:=YJM.mp he;exact⟨Sum.inr x.1,YA3 x.1 x.2.1,U⟩
 ·clear h nd
  induction rows with
  |nil=>exact .nil
  |cons x r ih=>exact .cons (YA3 x.1 x.2.1) rfl ih
 ·rw[YJz];rw[show(rows.map ((λx:Key×Value=>x.1)∘λx:Str×Tok×Addr=>((Sum.inr x.1:Key),Value.ref x.2.2)))=(rows.map (·.1)).map (Sum.inr:Str->Key) by rw[YJz];rfl];exact YBm nd
def tOGet (kvs:List (Key×V)) (ty:TE):TE:=λσ H Q=>ty σ H λy H1=>∃k v,y=kV k/\Jn kvs k=some v/\Q v H1
def tONotIn (kvs:List (Key×V)) (ty:TE):TE:=λσ H Q=>ty σ H λy H1=>∃k,y=kV k/\Q (.bl (!(Jn kvs k).isSome)) H1
section
variable {X:Cx}{o i:Expr}{pos:Pos}{ty:TE}{a:Addr}{kvs:List (Key×V)}
theorem pe_oget (O:OwnD X.prog X.w X.K a kvs) (ho:PE X o (tC (.ref a))) (hi:PE X i ty) (hs:NoSl i):PE X (.Subscript o i pos) (tOGet kvs ty):=by
 intro pins s σ H Q I h;refine YGY PySem.F.slot_dict_getitem.lookup hs (thn (ho pins s σ H (λx H1=>x=.ref a/\tOGet kvs ty σ H1 Q) I ⟨U,h⟩) λu s1 ⟨x,H1,I1,rx,ex,q1⟩=>thn (hi pins s1 σ H1 _ I1 q1) ?_);rintro iv s2 ⟨y,H2,I2,ry,k,v,ey,l,q2⟩;subst ex ey;obtain rfl:u=Value.ref a:=rx;obtain⟨vs,rel,dd⟩:=O.di;have dd:=dd _ I2.kIn;obtain⟨w',hw,k_⟩:=XG.some_of (v:=v) (o:=valueAt vs k) (by rw[<-l];exact rel.val k);exact⟨dd.typeIs,wpAny_getItem_of (YAg ry) dd.mapOf hw ⟨v,H2,I2.tok _,k_,q2⟩⟩
theorem YHj (O:OwnD X.prog X.w X.K a kvs) (hi:PE X i ty) (ho:PE X o (tC (.ref a))):PC X .NotIn i o (tONotIn kvs ty):=by
 intro pins s σ H Q I h;refine thn (hi pins s σ H _ I h) λiv s1 ⟨y,H1,I1,ry,k,ey,q1⟩=>thn (ho pins s1 σ H1 (λx H2=>x=.ref a/\H2=H1) I1 ⟨U,U⟩) λu s2 ⟨x,H2,I2,rx,ex,eH⟩=>?_
 subst ex ey eH;obtain rfl:u=Value.ref a:=rx;obtain⟨vs,rel,dd⟩:=O.di;have dd:=dd _ I2.kIn;refine wpAny_notIn_of (YAg ry) O.lo dd.mapOf ?_;rw[<-(rel.val k).isSome_eq];exact⟨.bl (!(Jn kvs k).isSome),H2,I2.tok _,U,q1⟩
end
end L2
namespace L2
open PySem PySem.Spec PyProof.Rows
open Builtin Builtin.Str StrLaws
theorem YCF (x:Str) (c L:Nat):∀(n a:Nat) (st:Array Nat×Nat),st.snd<=a->
  (forIn (List.range' a n) st (occBody x ⟨#[c]⟩ x.length L)).run.fst.toList=st.fst.toList ++ ((List.range' a n).filter λi=>decide (x.cps.toList[i]?=some c)).take (L - st.fst.size)
 |0,a,st,_=>by simp
 |n + 1,a,st,h1=>by
  rw[List.range'_succ,List.forIn_cons];unfold occBody
  by_cases hc:x.cps.toList[a]?=some c
  ·have h3:=(subAt_one x c a).mpr hc;rw[YJt,if_pos (YI7 hc)]
   by_cases hL:st.fst.size < L
   ·rw[if_pos ⟨⟨⟨hL,h1⟩,h3.1⟩,h3.2⟩];have ih:=YCF x c L n (a + 1) (st.fst.push a,a + (⟨#[c]⟩:Str).length) (by show a + 1<=a + 1;lia);refine Eq.trans ih ?_;show(st.fst.push a).toList ++ _=_;rw[Array.toList_push,List.append_assoc,show L - st.fst.size=(L - (st.fst.push a).size) + 1 by rw[Array.size_push];omega,List.take_succ_cons];rfl
   ·rw[if_neg λh=>hL h.1.1.1];have ih:=YCF x c L n (a + 1) (st.fst,st.snd) (by show st.snd<=a + 1;lia);refine Eq.trans ih ?_;show _ ++ List.take (L - st.fst.size) _=_;rw[show L - st.fst.size=0 by omega,List.take_zero,List.take_zero]
  ·have h3:¬(((st.fst.size < L/\st.snd<=a)/\a + (⟨#[c]⟩:Str).length<=x.length)/\subAt x ⟨#[c]⟩ a=true):=λh=>hc ((subAt_one x c a).mp ⟨h.1.2,h.2⟩)
   rw[if_neg h3];have ih:=YCF x c L n (a + 1) (st.fst,st.snd) (by show st.snd<=a + 1;lia);rw[YJt,if_neg (by simpa using hc)];exact ih
theorem YFK (x:Str) (c L:Nat):occurrences x ⟨#[c]⟩ 0 x.length L=((List.range' 0 (x.length + 1)).filter λi=>decide (x.cps.toList[i]?=some c)).take L:=by
 rw[occ_eq,YCF x c L (x.length + 1 - 0) 0 (#[],0) (YJB _)];rfl
theorem YIo {l:List Nat}{c:Nat} (h:¬c∈l) (a n:Nat):((List.range' a n).filter λi=>decide (l[i]?=some c))=[]:=by
 rw[List.filter_eq_nil_iff];intro i _ e;exact h (YJF (YJH e))
theorem YHk {l u v:List Nat}{c n:Nat} (h:l=u ++ c :: v) (hu:¬c∈u) (hn:u.length < n):∃r,((List.range' 0 n).filter λi=>decide (l[i]?=some c))=u.length :: r:=by
 have e:List.range' 0 n=List.range' 0 u.length ++ (u.length :: List.range' (u.length + 1) (n - u.length - 1)):=by
  rw[<-List.range'_succ];have:=List.range'_append (s:=0) (m:=u.length) (n:=n - u.length - 1 + 1) (step:=1);rw[Nat.one_mul,Nat.zero_add]at this;rw[this];congr 1;omega
 rw[e,List.filter_append,YJt,if_pos (by rw[h];simp)];have z:((List.range' 0 u.length).filter λi=>decide (l[i]?=some c))=[]:=by
  rw[List.filter_eq_nil_iff];intro i hi q;have hi:=List.mem_range'.mp hi;have hlt:i < u.length:=by omega
  have q:=YJH q;rw[h,YKO hlt]at q;exact hu (YJF q)
 rw[z];exact⟨_,U⟩
variable {x:Str}{c:Nat}{u v:List Nat}
theorem YAB (x:Str):x.cps.toList.length=x.length:=by simp[Str.length]
theorem YIp (h:¬c∈x.cps.toList) (L:Nat):occurrences x ⟨#[c]⟩ 0 x.length L=[]:=by
 rw[YFK,YIo h,List.take_nil]
theorem YGy (h:x.cps.toList=u ++ c :: v) (hu:¬c∈u):occurrences x ⟨#[c]⟩ 0 x.length 1=[u.length]:=by
 have hl:=YAB x;rw[h,YJL,YJY]at hl;obtain⟨r,e⟩:=YHk h hu (n:=x.length + 1) (by omega);rw[YFK,e];rfl
theorem YAC {a b:Str} (h:a.cps.toList=b.cps.toList):a=b:=by
 cases a;cases b;congr 1;exact Array.toList_inj.mp h
theorem YD0 (h:x.cps.toList=u ++ c :: v):strSub x 0 u.length=⟨u.toArray⟩/\strSub x (u.length + 1) x.length=⟨v.toArray⟩:=by
 have hl:=YAB x;rw[h,YJL,YJY]at hl;constructor
 ·refine YAC ?_;rw[strSub_toList,h];simp
 ·refine YAC ?_;rw[strSub_toList,h,show u ++ c :: v=(u ++ [c]) ++ v by simp,List.drop_left' (by simp)];exact YKA (by omega)
theorem YFL (h:¬c∈x.cps.toList):Txt.partition x ⟨#[c]⟩=(x,Str.empty,Str.empty):=by
 unfold Txt.partition;rw[YIp h]
theorem YD1 (h:x.cps.toList=u ++ c :: v) (hu:¬c∈u):Txt.partition x ⟨#[c]⟩=(⟨u.toArray⟩,⟨#[c]⟩,⟨v.toArray⟩):=by
 unfold Txt.partition;rw[YGy h hu];obtain⟨e1,e2⟩:=YD0 h;show(strSub x 0 u.length,_,strSub x (u.length + 1) x.length)=_;rw[e1,e2]
theorem YIq (hk:c < 128):¬strKind x < strKind ⟨#[c]⟩:=by
 have e1:strKind ⟨#[c]⟩=1:=by unfold Builtin.Str.strKind;rw[if_pos (by simp;lia)]
 have e2:1<=strKind x:=by
  unfold Builtin.Str.strKind;split
  ·decide
  ·split <;> decide
 omega
theorem YCt (hk:c < 128) (h:x.cps.toList=u ++ c :: v) (hu:¬c∈u):Txt.splitMax x ⟨#[c]⟩ 1=[⟨u.toArray⟩,⟨v.toArray⟩]:=by
 have hl:=YAB x;rw[h,YJL,YJY]at hl;unfold Txt.splitMax;rw[if_neg (by
  rw[YKW];rintro(q |q)
  ·have q:x.length < 1:=YJH q;omega
  ·exact YIq hk (YJH q))]
 rw[show limitOf x 1=1 from rfl,YGy h hu];obtain⟨e1,e2⟩:=YD0 h;show(if false=true then _ else [strSub x 0 u.length,strSub x (u.length + 1) x.length])=_;rw[e1,e2];rfl
theorem YCu {ws:List Str}{vs:List (List Nat)} (h:ws.map (·.cps.toList)=vs):ws=vs.map λl=>⟨l.toArray⟩:=by
 subst h;rw[YJz];exact(List.map_id' ws).symm.trans (YJ8 λa _=>YAC (by simp))
theorem YCv (hk:c < 128) (h:¬c∈x.cps.toList):Txt.split x ⟨#[c]⟩=[x]:=by
 have:=YCu ((YBI x c hk).trans (Zs h));rw[this];exact YJ2 (· :: []) (YAC (by simp))
theorem YCw:∀{u:List Nat},¬c∈u->Y7 c (u ++ c :: v)=u :: Y7 c v
 |[],_=>by show Y7 c (c :: v)=_;conv=>lhs;unfold Y7;rw[if_pos rfl]
 |a :: r,h=>by
  have h1:¬a=c:=λe=>h (by rw[e];exact YJI ..)
  have ih:=YCw (u:=r) λm=>h (YJD _ m)
  show Y7 c (a :: (r ++ c :: v))=_
  conv=>lhs;unfold Y7
  rw[if_neg h1,ih]
theorem YHl (hk:c < 128) (h:x.cps.toList=u ++ c :: v) (hu:¬c∈u) (hv:¬c∈v):Txt.split x ⟨#[c]⟩=[⟨u.toArray⟩,⟨v.toArray⟩]:=by
 have:=YCu ((YBI x c hk).trans ((YJ2 (Y7 c) h).trans (YCw hu)));rw[this,Zs hv];rfl
end L2
namespace L2
open PySem PySem.Spec PyProof.Rows
theorem YAD {X:Cx}:Zr X (.builtin "len") (λxs H Q=>∃(a:Addr) (kvs:List (Key×V)),xs=[.ref a]/\Rd H a (.dK kvs)/\Q (.int kvs.length) H):=by
 intro pins s σ H xs us Q I r h;obtain⟨a,kvs,rfl,ha,q⟩:=h;obtain⟨u,rfl,rx⟩:=Jo r;cases rx;exact d_len I ha λt s' I'=>⟨.int kvs.length,H,I',⟨_,U⟩,q⟩
end L2
namespace FR
open PySem L2
def top (i:Nat):Stmt:=PySem.Challenge.pw_forestread_k83_desk_deeds.main.body.getD i (.Pass ⟨0,0,0,0⟩)
abbrev YAZ:Stmt:=top 18
abbrev Zz:Stmt:=top 19
abbrev YBP:Stmt:=top 20
abbrev YBQ:Stmt:=top 21
abbrev YBR:Stmt:=top 22
abbrev YAa:Stmt:=top 32
abbrev Xu:Stmt:=top 33
abbrev YBS:Stmt:=top 34
abbrev XO:Stmt:=top 35
abbrev YBT:Stmt:=top 36
structure Adr where
 Desk:Addr
 NoGrammar:Addr
 NoRule:Addr
 FORMS:Addr
 none_:Addr
structure Txt (K:W.Frag) (mg:Str->Option Value) (C:Adr):Prop where
 aj:mg "isinstance"=none
 iV:mg "int"=none
 qW:mg "bool"=none
 sG:mg "ord"=none
 cO:mg "str"=none
 aH:mg "len"=none
 iW:mg "all"=none
 gJ:mg "tuple"=none
 lu:mg "list"=none
 cU:mg "enumerate"=none
 dH:mg "range"=none
 sH:mg "min"=none
 cg:∃t,mg "FIRST_CODE"=some (.int 32 t)
 cV:∃t,mg "LAST_CODE"=some (.int 126 t)
 bA:∃t,mg "PERCENT_CODE"=some (.int 37 t)
 bB:∃t,mg "MOST_LETTERS"=some (.int 8 t)
 cj:∃t,mg "MOST_PARTS"=some (.int 6 t)
 aN:∃t,mg "MOST_RULES"=some (.int 60 t)
 bC:∃t,mg "MOST_FIGURES"=some (.int 61 t)
 nu:mg "Desk"=some (.ref C.Desk)
 jL:mg "NoGrammar"=some (.ref C.NoGrammar)
 gK:mg "NoRule"=some (.ref C.NoRule)
 lU:mg "FORMS"=some (.ref C.FORMS)
 jM:Exc K C.NoGrammar
 gM:Exc K C.NoRule
 aV:Cls K C.Desk
 aq:YAS K C.Desk "rules"
theorem YDL:(["letter"]:List Str).Nodup:=by decide +kernel
theorem YFM:(["part"]:List Str).Nodup:=by decide +kernel
section
variable {P:Program}{w:World}{K:W.Frag}{mg:Str->Option Value}{base:Heap}{C:Adr}
theorem YFN:YS ["thing"] ["thing"] (YG YAZ):=⟨U,U,U,by decide +kernel,U,by decide +kernel,by decide +kernel⟩
theorem YFO {f:Addr}{fd:FuncData} (F:Fun K "is_whole" "is_whole" YAZ f fd) (T:Txt K mg C):Yv P w K mg base CX0 1 f fd ["thing"] (Xd YFC):=by
 refine F.ok YFN (λvs H Q E h=>?_) (λaB A outer s H vs Q E hr h=>?_)
 ·cases h;subst_vars;rfl
 ·obtain⟨x,d,rfl,den,sh,hp,q⟩:=h;refine⟨_,(YF (YT (Zw (YQ (ZT K rfl) (by rfl) T.aj YJV (YA (pv 0) (YA (JB (v:=.ty "int") (by rfl) T.iV YJr rfl) YB))) (Zv (YHq (YQ (ZT K rfl) (by rfl) T.aj YJV (YA (pv 0) (YA (JB (v:=.ty "bool") (by rfl) T.qW PyProof.Rows.Boot.«bool» rfl) YB)))))))),?_⟩;refine⟨_,U,_,_,_,_,_,U,den.ty,U,kit_int d,_,U,?_⟩;refine Jc (g:=!YGj d) (λ_ R hR=>⟨_,U,_,_,_,_,_,U,den.ty,U,YIV d,_,U,hR⟩) ?_;cases d <;> exact q
theorem Jf:YS ["sign","code"] ["sign"] (YG Zz):=⟨U,U,U,by decide +kernel,U,by decide +kernel,by decide +kernel⟩
theorem YAb {f:Addr}{fd:FuncData} (F:Fun K "stands_in_texts" "stands_in_texts" Zz f fd) (T:Txt K mg C):Yv P w K mg base CX0 1 f fd ["sign"] (YFD):=by
 obtain⟨pN,cg⟩:=T.cg;obtain⟨qy,cV⟩:=T.cV;obtain⟨nA,bA⟩:=T.bA;refine F.ok Jf (λvs H Q E h=>?_) (λaB A outer s H vs Q E hr h=>?_)
 ·cases h;subst_vars;rfl
 ·obtain⟨c,rfl,q⟩:=h;refine⟨_,(YE (YO (i:=1) Jf.nd rfl (Or.inl rfl) (YQ YH2 (by rfl) T.sG PyProof.Rows.Boot.«ord» (YA (pv 0) YB)))
   (YF (YT (Zw (Xg YAI YAI (JA (v:=.int 32) (by rfl) cg ⟨_,U⟩) (pv 1) (JA (v:=.int 126) (by rfl) cV ⟨_,U⟩)) (Zv (Zk YDa (pv 1) (JA (v:=.int 37) (by rfl) bA ⟨_,U⟩) (Yh _))))))),?_⟩
  refine⟨_,U,_,U,U,?_⟩;refine⟨_,U,_,_,U,U,_,U,?_⟩;have ec:(((⟨#[c]⟩:Str).cps.getD 0 0:Nat):Int)=(c:Int):=rfl;rw[ec];refine Zt (λh1=>?_) λh1=>?_
  ·refine⟨_,_,U,U,_,U,?_⟩;refine Zt (λh2=>?_) λh2=>?_
   ·refine⟨_,U,U,?_⟩;have e:(!decide (V.int (c:Int)=V.int 37))=JZ c:=by
     simp only[YJb]at h1 h2;unfold JZ;have a1:32<=c:=by lia
     have a2:c<=126:=by lia
     rw[YI7 a1,YI7 a2]
     by_cases h3:c=37
     ·subst h3;rfl
     ·rw[YI8 h3,YI8 (λz=>h3 (by have:=V.int.inj z;lia))];rfl
    rw[e];exact q
   ·have e:JZ c=false:=by
     simp only[YJb]at h2;unfold JZ;rw[YI8 (show ¬c<=126 by lia)];simp
    rw[e]at q;exact q
  ·refine⟨_,U,ZB ?_⟩;have e:JZ c=false:=by
    simp only[YJb]at h1;unfold JZ;rw[YI8 (show ¬32<=c by lia)];simp
   rw[e]at q;exact q
theorem first39 (z:Str):decide (V.str ⟨#[z.cps.getD 0 0]⟩=V.str "'")=decide (z.cps.getD 0 0=39):=by
 by_cases h:z.cps.getD 0 0=39
 ·rw[h];decide +kernel
 ·rw[YI8 h,YI8];intro e;apply h;have e6:(({ cps:=#[z.cps.getD 0 0] }:Str)).cps.getD 0 0=(("'":Str)).cps.getD 0 0:=YJ2 (λs:Str=>s.cps.getD 0 0) (V.str.inj e);exact(show z.cps.getD 0 0=(({ cps:=#[z.cps.getD 0 0] }:Str)).cps.getD 0 0 from rfl).trans (e6.trans (by decide +kernel))
theorem YGI:YS ["thing"] ["thing"] (YG YBP):=⟨U,U,U,by decide +kernel,U,by decide +kernel,by decide +kernel⟩
theorem YGJ {f:Addr}{fd:FuncData} (F:Fun K "is_sign" "is_sign" YBP f fd) (T:Txt K mg C) (aW:Y6 P w K mg CX0 1 "stands_in_texts" ["sign"] (YFD)):Yv P w K mg base CX0 2 f fd ["thing"] (Xd YAo):=by
 obtain⟨lV,lz,dW,dX,dY,dZ⟩:=aW.ok;refine F.ok YGI (λvs H Q E h=>?_) (λaB A outer s H vs Q E hr h=>?_)
 ·cases h;subst_vars;rfl
 ·obtain⟨x,d,rfl,den,sh,hp,q⟩:=h;refine⟨_,(YF (YT (Zw (YQ (ZT K rfl) (by rfl) T.aj YJV (YA (pv 0) (YA (JB (v:=.ty "str") (by rfl) T.cO YJZ rfl) YB))) (Zw (Zk JE (YQ JP (by rfl) T.aH YJE (YA (pv 0) YB)) YC (Yh _)) (Zw (Zk JE (YR Jv (pv 0) YC (λ_ _=>rfl)) YW (Yh _)) (Zv (YK (dW base) (hr.mono (by decide)) (by rfl) dX dY dZ .nil Yg (YA (YR Jv (pv 0) YC (λ_ _=>rfl)) YB)))))))),?_⟩;refine⟨_,U,_,_,_,_,_,U,den.ty,U,YAp d,_,U,?_⟩;cases d with
  |str z=>
   have ex:=den.to_str;subst ex;have hz:=YCe sh;have ev:YAo (.str z)=(z.cps.size == 2 && z.cps[0]? == some 39 && JZ (z.cps.getD 1 0)):=rfl;refine ZO ?_;refine⟨_,U,z,U,hz,U,_,U,?_⟩;refine Jc (g:=decide (z.cps.getD 0 0=39) && JZ (z.cps.getD 1 0)) (λh2 R hR=>?_) ?_
   ·have hs:z.cps.size=2:=by
     have e:=V.int.inj (YJH h2);rw[Zh]at e
     lia
    have g0:z.cps.toList[0]?=some (z.cps.getD 0 0):=by
     rw[YJ1];simp[hs]
    have g1:z.cps.toList[1]?=some (z.cps.getD 1 0):=by
     rw[YJ1];simp[hs]
    refine⟨_,U,z,0,_,U,U,hz,ZH (j:=0) g0,U,_,U,?_⟩;rw[first39];exact Jc (g:=JZ (z.cps.getD 1 0)) (λ_ R hR=>⟨_,U,z,1,_,U,U,hz,ZH (j:=1) g1,_,U,hR⟩) hR
   ·have e2:(decide (V.int (z.length:Int)=V.int 2) && (decide (z.cps.getD 0 0=39) && JZ (z.cps.getD 1 0)))=YAo (.str z):=by
     rw[ev,Zh,Bool.and_assoc]
     by_cases h2:z.cps.size=2
     ·have g0:z.cps[0]?=some (z.cps.getD 0 0):=by simp[h2]
      have e4:(some (z.cps.getD 0 0) == some 39)=decide (z.cps.getD 0 0=39):=by
       rw[YJ9];simp
      rw[g0,e4];congr 1;rw[h2];decide
     ·rw[YI8 (λe=>h2 (by have:=V.int.inj e;lia)),beq_eq_false_iff_ne.mpr h2];rfl
    rw[e2];exact q
  |_=>exact ZB q
theorem YGK:YS ["thing"] ["thing"] (YG YBQ):=⟨U,U,U,by decide +kernel,U,by decide +kernel,by decide +kernel⟩
theorem YGL {f:Addr}{fd:FuncData} (F:Fun K "is_name" "is_name" YBQ f fd) (T:Txt K mg C):Yv P w K mg base CX0 1 f fd ["thing"] (Xd isNameD):=by
 obtain⟨nC,bB⟩:=T.bB;refine F.ok YGK (λvs H Q E h=>?_) (λaB A outer s H vs Q E hr h=>?_)
 ·cases h;subst_vars;rfl
 ·obtain⟨x,d,rfl,den,sh,hp,q⟩:=h;refine⟨_,(YE (Yt (Zf (ZC (YQ (ZT K rfl) (by rfl) T.aj YJV (YA (pv 0) (YA (JB (v:=.ty "str") (by rfl) T.cO YJZ rfl) YB))))) (YF (YT Zu)) YY)
   (YF (YT (Zw (Xg YAI YAI YC (YQ JP (by rfl) T.aH YJE (YA (pv 0) YB)) (JA (v:=.int 8) (by rfl) bB ⟨_,U⟩)) (Zv (X7 (YQ (JS K rfl rfl) (by rfl) T.iW YJs (YA (ZJ (N:=["letter"]) (ρ:=[none]) (cl:=[]) rfl (Yb.plain rfl (by decide +kernel) (by decide +kernel) rfl (by simp)) (YIJ (pv 0)) (λ_ _ _ _ _=>(Yf (i:=0) YDL rfl (Or.inl rfl) (.inr rfl))) (λ_ _ _ _ _=>ZI) (λ_ _ _ _ _=>(Xg X6 X6 YW (pv 0) YW))) YB)))))))),?_⟩
  refine⟨_,U,_,_,_,_,_,U,den.ty,U,YAp d,_,U,?_⟩;cases d with
  |str z=>
   have ex:=den.to_str;subst ex;have hz:=YCe sh;have ev:isNameD (.str z)=(decide (1<=z.cps.size) && decide (z.cps.size<=8) && z.cps.toList.all ZG):=rfl;refine ZB ?_;refine⟨_,U,z,U,hz,_,_,U,U,_,U,?_⟩;refine Zt (λh1=>?_) λh1=>?_
   ·refine⟨_,_,U,U,_,U,?_⟩;have h1':1<=z.cps.size:=by have:=YJH h1;rw[Zh]at this;lia
    refine Zt (λh2=>?_) λh2=>?_
    ·have h2':z.cps.size<=8:=by have:=YJH h2;rw[Zh]at this;lia
     refine⟨hp,_,U,z,U,λl hl=>?_⟩;refine YE7 (τ:=YCU [none] _) (λc=>.bl (ZG c)) hl YJW hz (λτ' c H' R hτ _ hR=>?_) ?_
     ·refine⟨_,hτ,_,_,U,U,_,U,?_⟩;rw[le_A];refine Zt (λh3=>?_) λh3=>?_
      ·refine⟨_,_,U,U,?_⟩;rw[le_Z];have e5:ZG c=decide (c<=90):=by unfold ZG;rw[h3];rfl
       rw[e5]at hR;exact hR
      ·have e5:ZG c=false:=by
        unfold ZG;cases hh:decide (65<=c) with
        |false=>rfl
        |true=>exact absurd hh h3
       rw[e5]at hR;exact hR
     ·refine⟨l,z.cps.toList.map ZG,U,.inl (.inl ?_),λb o eb=>?_,?_⟩
      ·rw[YD,YIX]
      ·rw[YN (YV eb hl)];exact eb
      ·rw[XJ];rw[ev,YI7 h1',YI7 h2']at q
       simpa using q
    ·have h2':¬z.cps.size<=8:=λz'=>h2 (YI7 (by rw[Zh];lia))
     rw[ev,YI8 h2']at q
     simpa using q
   ·have h1':¬1<=z.cps.size:=λz'=>h1 (YI7 (by rw[Zh];lia))
    refine⟨_,U,ZB ?_⟩;rw[ev,YI8 h1']at q
    simpa using q
  |_=>exact ZO q
theorem YGM:YS ["thing"] ["thing"] (YG YBR):=⟨U,U,U,by decide +kernel,U,by decide +kernel,by decide +kernel⟩
theorem YGN {f:Addr}{fd:FuncData} (F:Fun K "is_part" "is_part" YBR f fd) (T:Txt K mg C) (eN:Y6 P w K mg CX0 2 "is_sign" ["thing"] (Xd YAo)) (bw:Y6 P w K mg CX0 1 "is_name" ["thing"] (Xd isNameD)):Yv P w K mg base CX0 3 f fd ["thing"] (Xd JQ):=by
 obtain⟨rQ,qX,lY,lZ,l_,mj⟩:=eN.ok;obtain⟨mq,lA,eO,eQ,eU,eV⟩:=bw.ok;refine F.ok YGM (λvs H Q E h=>?_) (λaB A outer s H vs Q E hr h=>?_)
 ·cases h;subst_vars;rfl
 ·obtain⟨x,d,rfl,den,sh,hp,q⟩:=h;refine⟨_,(YF (YT (pe_or (YK (lY base) (hr.mono (by decide)) (by rfl) lZ l_ mj .nil Yg (YA (pv 0) YB)) (Zv (YK (eO base) (hr.mono (by decide)) (by rfl) eQ eU eV .nil Yg (YA (pv 0) YB)))))),?_⟩;refine⟨_,U,x,d,U,den,sh,hp,_,U,?_⟩;exact YGk (g:=isNameD d) (λ_ R hR=>⟨_,U,x,d,U,den,sh,hp,hR⟩) q
theorem YFP:YS ["thing"] ["thing"] (YG YAa):=⟨U,U,U,by decide +kernel,U,by decide +kernel,by decide +kernel⟩
theorem YFQ {f:Addr}{fd:FuncData} (F:Fun K "is_worth" "is_worth" YAa f fd) (T:Txt K mg C) (dJ:Y6 P w K mg CX0 1 "is_whole" ["thing"] (Xd YFC)):Yv P w K mg base CX0 2 f fd ["thing"] (Xd Ja):=by
 obtain⟨qY,qz,lB,lC,lD,lE⟩:=dJ.ok;refine F.ok YFP (λvs H Q E h=>?_) (λaB A outer s H vs Q E hr h=>?_)
 ·cases h;subst_vars;rfl
 ·obtain⟨x,d,rfl,den,sh,hp,q⟩:=h;refine⟨_,(YF (YT (Zw (YK (lB base) (hr.mono (by decide)) (by rfl) lC lD lE .nil Yg (YA (pv 0) YB)) (Zv (Xg YAI YAI YC (pv 0) (YL YHw YC YC)))))),?_⟩;refine⟨_,U,x,d,U,den,sh,hp,_,U,?_⟩;cases d with
  |int i=>
   have ex:=den.to_int;subst ex;have ev:Ja (.int i)=(decide (0<=i) && decide (i<=10 ^ 60)):=rfl;refine ZO ?_;refine⟨_,U,_,_,U,U,_,U,?_⟩;refine Zt (λh1=>?_) λh1=>?_
   ·refine⟨_,_,U,U,⟨by decide,by decide,by decide⟩,_,_,U,U,?_⟩;rw[ev,h1]at q;exact q
   ·have h1':decide (0<=i)=false:=by
     cases hh:decide (0<=i) with
     |false=>rfl
     |true=>exact absurd hh h1
    rw[ev,h1']at q;exact q
  |_=>exact ZB q
theorem YEb:YS ["thing"] ["thing"] (YG Xu):=⟨U,U,U,by decide +kernel,U,by decide +kernel,by decide +kernel⟩
theorem YEc {f:Addr}{fd:FuncData} (F:Fun K "are_parts" "are_parts" Xu f fd) (T:Txt K mg C) (eX:Y6 P w K mg CX0 3 "is_part" ["thing"] (Xd JQ)):Yv P w K mg base CX0 4 f fd ["thing"] (Xd JT):=by
 obtain⟨rR,qZ,my,mz,mC,mD⟩:=eX.ok;obtain⟨pO,cj⟩:=T.cj;refine F.ok YEb (λvs H Q E h=>?_) (λaB A outer s H vs Q E hr h=>?_)
 ·cases h;subst_vars;rfl
 ·obtain⟨x,d,rfl,den,sh,hp,q⟩:=h;refine⟨_,(YE (Yt (Zf (ZC (YQ (ZT K rfl) (by rfl) T.aj YJV (YA (pv 0) (YA (JB (v:=.ty "tuple") (by rfl) T.gJ YJ7 rfl) YB))))) (YF (YT Zu)) YY)
   (YF (YT (Zw (Zk YAI (YQ (Yc K rfl) (by rfl) T.aH YJE (YA (pv 0) YB)) (JA (v:=.int 6) (by rfl) cj ⟨_,U⟩) (Yh _)) (Zv (X7 (YQ (JS K rfl rfl) (by rfl) T.iW YJs (YA (ZJ (N:=["part"]) (ρ:=[none]) (cl:=[]) rfl (Yb.plain rfl (by decide +kernel) (by decide +kernel) rfl (by simp)) (X8 K rfl (pv 0)) (λ_ _ _ _ _=>(Yf (i:=0) YFM rfl (Or.inl rfl) (.inr rfl))) (λ_ _ _ _ _=>ZI) (λ_ _ _ _ _=>(YK (my base) (hr.mono (by decide)) (by rfl) mz mC mD .nil Yg (YA (pv 0) YB)))) YB)))))))),?_⟩
  refine⟨_,U,_,_,_,_,_,U,den.ty,U,YDr d,_,U,?_⟩;cases d with
  |tup ds=>
   obtain⟨a,xs,rfl,ha,cN⟩:=den.to_tup;have hl:xs.length=ds.length:=cN.len;refine ZB ?_;refine⟨_,U,a,xs,U,.inr (SqT.of ha),_,_,U,U,_,U,?_⟩;have shS:Jb ds=true:=by unfold D.short at sh;exact sh
   have e1:decide ((xs.length:Int)<=6)=decide (ds.length<=6):=by rw[hl];congr 1;exact propext ⟨λh=>by lia,λh=>by lia⟩
   rw[e1];refine Jc (g:=ds.all JQ) (λh1 R hR=>?_) q;have h1':ds.length<=6:=YJH h1;refine⟨hp,_,U,a,U,⟨xs,SqT.of ha⟩,λl pL=>?_⟩;refine Yw (n:=xs.length) 0 (λk y _=>∃d,ds[k]?=some d/\y=.bl (JQ d)) (YBF (SqT.of ha)) (λ_ _ _ _ _ h=>h) hp pL YJW (YH (by lia)) (λτ'=>0 < τ'.length) YJW (λτ' v h=>by rw[YJl];exact h) ?_ ?_
   ·intro τ' k y H' R _ hτ hit hk hs hp' eY hR;obtain⟨d,hd,dn⟩:=cN.get hit;exact⟨_,hτ,y,d,U,dn.same hs,Z5 shS (YJF hd),hp',hR _ _ (YI.refl _) hp' ⟨d,hd,U⟩⟩
   ·intro ys H' hy hP hs hp' hl';have e2:ys=(ds.map JQ).map V.bl:=YIY (by rw[hy,hl]) hP;refine⟨l,ds.map JQ,U,.inl (.inl (by rw[hl',e2])),hs,?_⟩;rw[XJ];exact hR
  |_=>exact ZO q
theorem YGO:YS ["thing"] ["thing"] (YG YBS):=⟨U,U,U,by decide +kernel,U,by decide +kernel,by decide +kernel⟩
theorem YGP {f:Addr}{fd:FuncData} (F:Fun K "is_rule" "is_rule" YBS f fd) (T:Txt K mg C) (bw:Y6 P w K mg CX0 1 "is_name" ["thing"] (Xd isNameD)) (cW:Y6 P w K mg CX0 4 "are_parts" ["thing"] (Xd JT)) (dM:Y6 P w K mg CX0 2 "is_worth" ["thing"] (Xd Ja)):Yv P w K mg base CX0 5 f fd ["thing"] (Xd ZX):=by
 obtain⟨mq,lA,eO,eQ,eU,eV⟩:=bw.ok;obtain⟨qC,pP,jN,jO,jP,jQ⟩:=cW.ok;obtain⟨q9,qD,lF,lG,lH,lJ⟩:=dM.ok;refine F.ok YGO (λvs H Q E h=>?_) (λaB A outer s H vs Q E hr h=>?_)
 ·cases h;subst_vars;rfl
 ·obtain⟨x,d,rfl,den,sh,hp,q⟩:=h;refine⟨_,(YE (Yt (PW.pt (YCJ (Zf (ZC (YQ (ZT K rfl) (by rfl) T.aj YJV (YA (pv 0) (YA (JB (v:=.ty "tuple") (by rfl) T.gJ YJ7 rfl) YB))))) (YA5 (Yl YDa (YQ (Yc K rfl) (by rfl) T.aH YJE (YA (pv 0) YB)) YC (Yh _))))) (YF (YT Zu)) YY)
   (YF (YT (Zw (YK (eO base) (hr.mono (by decide)) (by rfl) eQ eU eV .nil Yg (YA (YR (YZ K rfl) (pv 0) YC (λ_ _=>rfl)) YB)) (Zw (YK (jN base) (hr.mono (by decide)) (by rfl) jO jP jQ .nil Yg (YA (YR (YZ K rfl) (pv 0) YC (λ_ _=>rfl)) YB)) (Zv (YK (lF base) (hr.mono (by decide)) (by rfl) lG lH lJ .nil Yg (YA (YR (YZ K rfl) (pv 0) YC (λ_ _=>rfl)) YB)))))))),?_⟩
  refine⟨_,U,_,_,_,_,_,U,den.ty,U,YDr d,_,U,?_⟩;cases d with
  |tup ds=>
   obtain⟨a,xs,rfl,ha,cN⟩:=den.to_tup;have hl:xs.length=ds.length:=cN.len;refine ZB ?_;refine⟨_,U,a,xs,U,.inr (SqT.of ha),U,_,U,?_⟩;have shS:Jb ds=true:=by unfold D.short at sh;exact sh
   by_cases h3:ds.length=3
   ·match ds,h3,xs,hl,cN,ha,q,shS with
    |[d0,d1,d2],_,[x0,x1,x2],_,cN,ha,q,shS=>
     have n0:=(cN.get (i:=0) (v:=x0) rfl);have n1:=(cN.get (i:=1) (v:=x1) rfl);have n2:=(cN.get (i:=2) (v:=x2) rfl);obtain⟨_,e0,n0⟩:=n0;obtain⟨_,e1,n1⟩:=n1;obtain⟨_,e2,n2⟩:=n2;cases e0;cases e1;cases e2;have sq:SqT K H a [x0,x1,x2]:=SqT.of ha;refine ZB ?_;refine⟨_,U,a,_,0,x0,U,U,sq,U,x0,d0,U,n0,Z5 shS (by simp),hp,_,U,?_⟩;refine Jc (g:=JT d1 && Ja d2) (λ_ R hR=>?_) q;refine⟨_,U,a,_,1,x1,U,U,sq,U,x1,d1,U,n1,Z5 shS (by simp),hp,_,U,?_⟩;exact Jc (g:=Ja d2) (λ_ R hR=>⟨_,U,a,_,2,x2,U,U,sq,U,x2,d2,U,n2,Z5 shS (by simp),hp,hR⟩) hR
   ·have e1:(!decide (V.int (xs.length:Int)=V.int 3))=true:=by
     rw[YI8]
     ·rfl
     ·intro e;have:=V.int.inj e
      lia
    rw[e1];refine ZO ?_;have e2:ZX (.tup ds)=false:=by
     match ds,h3 with
     |[],_=>rfl
     |[_],_=>rfl
     |[_,_],_=>rfl
     |[_,_,_],h=>exact absurd rfl h
     |_ :: _ :: _ :: _ :: _,_=>rfl
    rw[e2]at q;exact q
  |_=>exact ZO q
end
theorem YFR:(["rule"]:List Str).Nodup:=by decide +kernel
section
variable {P:Program}{w:World}{K:W.Frag}{mg:Str->Option Value}{base:Heap}{C:Adr}
theorem YDM:YS ["thing"] ["thing"] (YG XO):=⟨U,U,U,by decide +kernel,U,by decide +kernel,by decide +kernel⟩
theorem YDN {f:Addr}{fd:FuncData} (F:Fun K "is_grammar" "is_grammar" XO f fd) (T:Txt K mg C) (bx:Y6 P w K mg CX0 5 "is_rule" ["thing"] (Xd ZX)):Yv P w K mg base CX0 6 f fd ["thing"] (Xd Jq):=by
 obtain⟨mF,lK,eZ,e_,gb,gf⟩:=bx.ok;obtain⟨iZ,aN⟩:=T.aN;refine F.ok YDM (λvs H Q E h=>?_) (λaB A outer s H vs Q E hr h=>?_)
 ·cases h;subst_vars;rfl
 ·obtain⟨x,d,rfl,den,sh,hp,q⟩:=h;refine⟨_,(YE (Yt (Zf (ZC (YQ (ZT K rfl) (by rfl) T.aj YJV (YA (pv 0) (YA (JB (v:=.ty "list") (by rfl) T.lu YKM rfl) YB))))) (YF (YT Zu)) YY)
   (YF (YT (Zw (Zk YAI (YQ (Yc K rfl) (by rfl) T.aH YJE (YA (pv 0) YB)) (JA (v:=.int 60) (by rfl) aN ⟨_,U⟩) (Yh _)) (Zv (X7 (YQ (JS K rfl rfl) (by rfl) T.iW YJs (YA (ZJ (N:=["rule"]) (ρ:=[none]) (cl:=[]) rfl (Yb.plain rfl (by decide +kernel) (by decide +kernel) rfl (by simp)) (ZK K rfl (pv 0)) (λ_ _ _ _ _=>(Yf (i:=0) YFR rfl (Or.inl rfl) (.inr rfl))) (λ_ _ _ _ _=>ZI) (λ_ _ _ _ _=>(YK (eZ base) (hr.mono (by decide)) (by rfl) e_ gb gf .nil Yg (YA (pv 0) YB)))) YB)))))))),?_⟩
  refine⟨_,U,_,_,_,_,_,U,den.ty,U,YIW d,_,U,?_⟩;cases d with
  |lst ds=>
   obtain⟨a,xs,rfl,ha,cN⟩:=den.to_lst;have hl:xs.length=ds.length:=cN.len;have sq:SqL K H a xs:=.inl ha;refine ZB ?_;refine⟨_,U,a,xs,U,.inl sq,_,_,U,U,_,U,?_⟩;have shS:Jb ds=true:=by unfold D.short at sh;exact sh
   have e1:decide ((xs.length:Int)<=60)=decide (ds.length<=60):=by rw[hl];congr 1;exact propext ⟨λh=>by omega,λh=>by omega⟩
   rw[e1];refine Jc (g:=ds.all ZX) (λh1 R hR=>?_) q;have h1':ds.length<=60:=YJH h1;refine⟨hp,_,U,a,U,⟨xs,sq⟩,λl pL=>?_⟩;refine Yw (n:=xs.length) 0 (λk y _=>∃d,ds[k]?=some d/\y=.bl (ZX d)) (ZF sq) (λ_ _ _ _ _ h=>h) hp pL YJW (YH (by omega)) (λτ'=>0 < τ'.length) YJW (λτ' v h=>by rw[YJl];exact h) ?_ ?_
   ·intro τ' k y H' R _ hτ hit hk hs hp' eY hR;obtain⟨d,hd,dn⟩:=cN.get hit;exact⟨_,hτ,y,d,U,dn.same hs,Z5 shS (YJF hd),hp',hR _ _ (YI.refl _) hp' ⟨d,hd,U⟩⟩
   ·intro ys H' hy hP hs hp' hl';have e2:ys=(ds.map ZX).map V.bl:=YIY (by rw[hy,hl]) hP;refine⟨l,ds.map ZX,U,.inl (.inl (by rw[hl',e2])),hs,?_⟩;rw[XJ];exact hR
  |_=>exact ZO q
theorem YGQ:YS ["thing"] ["thing"] (YG YBT):=⟨U,U,U,by decide +kernel,U,by decide +kernel,by decide +kernel⟩
theorem YGR {f:Addr}{fd:FuncData} (F:Fun K "checked" "checked" YBT f fd) (T:Txt K mg C) (cu:Y6 P w K mg CX0 6 "is_grammar" ["thing"] (Xd Jq)):Yv P w K mg base (CXo P w) 7 f fd ["thing"] (YBJ C.NoGrammar):=by
 obtain⟨pQ,pq,i_,jb,jc,jd⟩:=cu.ok;refine F.okX YGQ (λvs H Q E h=>?_) (λaB A outer s H vs Q E hr h=>?_)
 ·cases h;subst_vars;rfl
 ·obtain⟨x,d,rfl,den,sh,hp,q1,q2⟩:=h;refine⟨_,(YE (Yt (Zf (ZC (YK (i_ base) (hr.mono (by decide)) (by rfl) jb jc jd .nil Yg (YA (pv 0) YB)))) (YF (YAj Xn T.jM rfl (by rfl) T.jL (YA YW YB))) YY)
   (YF (YT (Yx (YDI K rfl) (by rfl) T.lu YKM (YA (pv 0) YB))))),?_⟩
  refine⟨_,U,x,d,U,den,sh,hp,_,U,?_⟩;refine Zt (λhi=>?_) λhi=>?_
  ·exact⟨YH (by decide),q2 (XL hi)⟩
  ·have e:=J9 hi;obtain⟨g,rfl,hg⟩:=YGm e;obtain⟨a,xs,rfl,ha,cN⟩:=YIZ den;exact⟨_,U,a,xs,U,.inl (.inl ha),λl hl=>q1 e l xs _ rfl cN hl⟩
end
abbrev XQ:Stmt:=top 57
abbrev Xv:Stmt:=top 58
abbrev Xw:Stmt:=top 59
abbrev Jg:Stmt:=top 60
abbrev Xx:Stmt:=top 61
abbrev Xy:Stmt:=top 62
theorem YDO:(["figure"]:List Str).Nodup:=by decide +kernel
theorem YFS:(["part"]:List Str).Nodup:=by decide +kernel
theorem YFT:(["word"]:List Str).Nodup:=by decide +kernel
theorem YHm (xs:List V):YDD xs (some 3) none=xs.drop 3:=by
 unfold YDD;have e2:HT.sIx xs.length 0 (some 3)=min 3 xs.length:=HT.sIx_nat _ _ 3;have e3:HT.sIx xs.length xs.length none=xs.length:=rfl;rw[e2,e3]
 by_cases h:3<=xs.length
 ·rw[Nat.min_eq_left h,YKA (by simp)]
 ·rw[List.drop_of_length_le (show xs.length<=min 3 xs.length by omega),List.drop_of_length_le (show xs.length<=3 by omega)];simp
theorem YAE {ys:List V}{zs:List Str} (hl:ys.length=zs.length) (h:∀(k:Nat) (y:V),ys[k]?=some y->∃z,zs[k]?=some z/\y=.str z):ys=zs.map V.str:=by
 refine List.ext_getElem? λk=>?_
 by_cases hk:k < ys.length
 ·obtain⟨d,hd,hy⟩:=h k ys[k] (YJC hk);rw[YJC hk,YJG,hd,hy];rfl
 ·rw[YJp (by omega),YJp (by rw[YI6];omega)]
section
variable {P:Program}{w:World}{K:W.Frag}{mg:Str->Option Value}{base:Heap}{C:Adr}
theorem YDP:YS ["thing"] ["thing"] (YG XQ):=⟨U,U,U,by decide +kernel,U,by decide +kernel,by decide +kernel⟩
theorem YDQ {f:Addr}{fd:FuncData} (F:Fun K "is_figures" "is_figures" XQ f fd) (T:Txt K mg C):Yv P w K mg base CX0 1 f fd ["thing"] (YBM):=by
 obtain⟨nD,bC⟩:=T.bC;refine F.ok YDP (λvs H Q E h=>?_) (λaB A outer s H vs Q E hr h=>?_)
 ·cases h;subst_vars;rfl
 ·obtain⟨z,rfl,hz',hp,q⟩:=h;have hz:=YH hz';refine⟨_,(YE (Yt (PW.pt (YCJ (Zf (YH0 YAI YAI YC (YQ JP (by rfl) T.aH YJE (YA (pv 0) YB)) (JA (v:=.int 61) (by rfl) bC ⟨_,U⟩))) (YA5 (Zf (ZC (X7 (YQ (JS K rfl rfl) (by rfl) T.iW YJs (YA (ZJ (N:=["figure"]) (ρ:=[none]) (cl:=[]) rfl (Yb.plain rfl (by decide +kernel) (by decide +kernel) rfl (by simp)) (YIJ (pv 0)) (λ_ _ _ _ _=>(Yf (i:=0) YDO rfl (Or.inl rfl) (.inr rfl))) (λ_ _ _ _ _=>ZI) (λ_ _ _ _ _=>(Xg X6 X6 YW (pv 0) YW))) YB)))))))) (YF (YT Zu)) YY)
   (YF (YT (pe_or (Zk JE (pv 0) YW (Yh _)) (Zv (YHq (ZL K rfl YJd YKJ YKI Zx (pv 0) (YA YW YB)))))))),?_⟩
  refine⟨_,U,z,U,hz,_,_,U,U,_,U,?_⟩;refine Zt (λh1=>?_) λh1=>?_
  ·refine⟨_,_,U,U,_,U,?_⟩;have h1':1<=z.cps.size:=by have:=YJH h1;rw[Zh]at this;omega
   refine Zt (λh2=>?_) λh2=>?_
   ·have h2':¬z.cps.size<=61:=λz'=>by
     have e:decide ((z.length:Int)<=61)=true:=YI7 (by rw[Zh];omega);rw[e]at h2;cases h2
    have e:ZZ z=false:=by
     unfold ZZ;rw[YI8 h2'];simp
    rw[e]at q;exact ZO q
   ·have h2':z.cps.size<=61:=by
     have:=YJH (J9 h2);rw[Zh]at this;omega
    refine⟨hp,_,U,z,U,λl hl=>?_⟩;refine YE7 (τ:=YCU [none] _) (λc=>.bl (YBs c)) hl YJW hz (λτ' c H' R hτ _ hR=>?_) ?_
    ·refine⟨_,hτ,_,_,U,U,_,U,?_⟩;rw[le_0];refine Zt (λh3=>?_) λh3=>?_
     ·refine⟨_,_,U,U,?_⟩;rw[le_9];have e5:YBs c=decide (c<=57):=by unfold YBs;rw[h3];rfl
      rw[e5]at hR;exact hR
     ·have e5:YBs c=false:=by
       unfold YBs;cases hh:decide (48<=c) with
       |false=>rfl
       |true=>exact absurd hh h3
      rw[e5]at hR;exact hR
    ·refine⟨l,z.cps.toList.map YBs,U,.inl (.inl ?_),λb o eb=>?_,_,U,?_⟩
     ·rw[YD,YIX]
     ·rw[YN (YV eb hl)];exact eb
     ·rw[XJ];have ev:ZZ z=(z.cps.toList.all YBs && (decide (z="0") || !Txt.startswith z "0")):=by
       unfold ZZ;rw[YI7 h1',YI7 h2'];rfl
      rw[ev]at q;cases hA:z.cps.toList.all YBs with
      |false=>
       rw[hA]at q;exact ZO q
      |true=>
       rw[hA]at q;refine ZB ?_;refine⟨_,U,U,_,U,?_⟩;rw[dec_str];refine YGk (g:=!Txt.startswith z "0") (λ_ R hR=>?_) q;exact⟨_,U,U,_,_,U,U,_,U,hR⟩
  ·have h1':¬1<=z.cps.size:=λz'=>h1 (YI7 (by rw[Zh];omega))
   have e:ZZ z=false:=by
    unfold ZZ;rw[YI8 h1'];simp
   rw[e]at q;exact⟨_,U,ZO q⟩
theorem YEd:YS ["part"] ["part"] (YG Xv):=⟨U,U,U,by decide +kernel,U,by decide +kernel,by decide +kernel⟩
theorem YEe {f:Addr}{fd:FuncData} (F:Fun K "show_part" "show_part" Xv f fd) (T:Txt K mg C):Yv P w K mg base CX0 1 f fd ["part"] (YEW Yj):=by
 refine F.ok YEd (λvs H Q E h=>?_) (λaB A outer s H vs Q E hr h=>?_)
 ·cases h;subst_vars;rfl
 ·obtain⟨z,rfl,q⟩:=h;refine⟨_,(YF (YT (Xf (Yl JE (pv 0) YW (Yh _)) YW (pv 0)))),?_⟩;refine⟨_,U,U,_,U,?_⟩;rw[dec_str];unfold Yj at q;refine Zt (λh=>?_) λh=>?_
  ·rw[if_pos (YJH h)]at q;exact q
  ·rw[if_neg (λe=>h (YI7 e))]at q;exact⟨_,U,q⟩
theorem YEf:YS ["word"] ["word"] (YG Xx):=⟨U,U,U,by decide +kernel,U,by decide +kernel,by decide +kernel⟩
theorem YEg {f:Addr}{fd:FuncData} (F:Fun K "read_part" "read_part" Xx f fd) (T:Txt K mg C):Yv P w K mg base CX0 1 f fd ["word"] (YEW Yd):=by
 refine F.ok YEf (λvs H Q E h=>?_) (λaB A outer s H vs Q E hr h=>?_)
 ·cases h;subst_vars;rfl
 ·obtain⟨z,rfl,q⟩:=h;refine⟨_,(YF (YT (Xf (Yl JE (pv 0) YW (Yh _)) YW (pv 0)))),?_⟩;refine⟨_,U,U,_,U,?_⟩;rw[dec_str];unfold Yd at q;refine Zt (λh=>?_) λh=>?_
  ·rw[if_pos (YJH h)]at q;exact q
  ·rw[if_neg (λe=>h (YI7 e))]at q;exact⟨_,U,q⟩
theorem YAt:YS ["rule","words"] ["rule"] (YG Xw):=⟨U,U,U,by decide +kernel,U,by decide +kernel,by decide +kernel⟩
theorem YEh {f:Addr}{fd:FuncData} (F:Fun K "show_rule" "show_rule" Xw f fd) (T:Txt K mg C) (cX:Y6 P w K mg CX0 1 "show_part" ["part"] (YEW Yj)):Yv P w K mg base CX0 2 f fd ["rule"] (YCj):=by
 obtain⟨qF,pR,jR,jT,jU,jV⟩:=cX.ok;refine F.ok YAt (λvs H Q E h=>?_) (λaB A outer s H vs Q E hr h=>?_)
 ·cases h;subst_vars;rfl
 ·obtain⟨x,r,rfl,den,hok,hp,q⟩:=h;obtain⟨t,p,rfl,ht,gB⟩:=XA den;have hw:=YCn hok;have hps:=YAq hok;have hh:=YEX hok;refine⟨_,(YE (YO (i:=1) YAt.nd rfl (Or.inl rfl) (YL YEO (JW (YA (YR (YZ K rfl) (pv 0) YC (λ_ _=>rfl)) (YA (Yx ZN (by rfl) T.cO YJZ (YA (YR (YZ K rfl) (pv 0) YC (λ_ _=>rfl)) YB)) (YA YW YB)))) (ZJ (N:=["part"]) (ρ:=[none]) (cl:=[]) rfl (Yb.plain rfl (by decide +kernel) (by decide +kernel) rfl (by simp)) (X8 K rfl (YR (YZ K rfl) (pv 0) YC (λ_ _=>rfl))) (λ_ _ _ _ _=>(Yf (i:=0) YFS rfl (Or.inl rfl) (.inr rfl))) (λ_ _ _ _ _=>ZI) (λ_ _ _ _ _=>(YK (jR base) (hr.mono (by decide)) (by rfl) jT jU jV .nil Yg (YA (pv 0) YB))))))
   (YF (YT (ZL K rfl YJd YJy YJx (J7 K rfl) YW (YA (pv 1) YB))))),?_⟩
  refine⟨_,U,t,_,0,_,U,U,SqT.of ht,U,_,U,t,_,2,_,U,U,SqT.of ht,U,r.2.2,U,Z6 hw.1 hw.2,YH (by show 3<=1000;decide),λl hl=>?_⟩;have s1:=YI.upd (o:=.lst [.str r.1,.str (toString r.2.2:String),.str "="]) hl;have el:upd H l (.lst [.str r.1,.str (toString r.2.2:String),.str "="]) l=some (.lst [.str r.1,.str (toString r.2.2:String),.str "="]):=YD;have p1:YJ (upd H l (.lst [.str r.1,.str (toString r.2.2:String),.str "="])):=hp.upd rfl;revert s1 el p1;generalize upd H l (.lst [.str r.1,.str (toString r.2.2:String),.str "="])=H1;intro s1 el p1;refine⟨_,U,t,_,1,_,U,U,SqT.of (s1 _ _ ht),U,p,U,⟨_,SqT.of (s1 _ _ gB)⟩,λl2 hl2=>?_⟩;refine Yw (n:=(r.2.1.map V.str).length) 0 (λk y _=>∃z,(r.2.1.map Yj)[k]?=some z/\y=.str z) (YBF (SqT.of (s1 _ _ gB))) (λ_ _ _ _ _ h=>h) p1 hl2 YJW (YH (by rw[YI6];omega)) (λτ'=>0 < τ'.length) YJW (λτ' v h=>by rw[YJl];exact h) ?_ ?_
  ·intro τ' k y H' R _ hτ hit hk hs hp' eY hR;rw[YJG]at hit;cases e:r.2.1[k]? with
   |none=>rw[e]at hit;cases hit
   |some z=>
    rw[e]at hit;cases hit;exact⟨_,hτ,z,U,hR _ _ (YI.refl _) hp' ⟨_,by rw[YJG,e];rfl,U⟩⟩
  ·intro ys H' hy hP hs hp' hl';have e2:ys=(r.2.1.map Yj).map V.str:=YAE (by rw[hy,YI6,YI6]) hP;have vO:ys.length=r.2.1.length:=by rw[hy,YI6]
   refine⟨l,l2,_,_,U,U,hs _ _ el,hl',YH (by show 3 + ys.length<=1000;omega),λm hm=>?_⟩;have em:upd H' m (.lst ([.str r.1,.str (toString r.2.2:String),.str "="] ++ ys)) m=some (.lst (([r.1,(toString r.2.2:String),"="] ++ r.2.1.map Yj).map V.str)):=by
    rw[YD,e2,YJj];rfl
   refine⟨U,_,U,_,m,[r.1,(toString r.2.2:String),"="] ++ r.2.1.map Yj,U,U,SqL.of em,?_,q _ ((s1.trans hs).trans (YI.upd hm)) (hp'.upd rfl)⟩;have h1:=Jd (m:=9) (YBN hok) (by rw[YJL,YI6];show 3 + _<=9;omega);rw[show((" ":Str)).length=1 from by decide +kernel,YKX,YJL,YI6];show _ + (3 + _)<=16777216;omega
theorem XR:YS ["text","words","rule"] ["text"] (YG Xy):=⟨U,U,U,by decide +kernel,U,by decide +kernel,by decide +kernel⟩
theorem YEi {f:Addr}{fd:FuncData} (F:Fun K "read_rule" "read_rule" Xy f fd) (T:Txt K mg C) (bx:Y6 P w K mg CX0 5 "is_rule" ["thing"] (Xd ZX)) (aO:Y6 P w K mg CX0 1 "is_figures" ["thing"] (YBM)) (cY:Y6 P w K mg CX0 1 "read_part" ["word"] (YEW Yd)):Yv P w K mg base (CXo P w) 6 f fd ["text"] (YCk C.NoRule):=by
 obtain⟨mF,lK,eZ,e_,gb,gf⟩:=bx.ok;obtain⟨je,iG,cz,cA,cB,cC⟩:=aO.ok;obtain⟨qG,pU,jW,jX,jY,jZ⟩:=cY.ok;refine F.okX XR (λvs H Q E h=>?_) (λaB A outer s H vs Q E hr h=>?_)
 ·cases h;subst_vars;rfl
 ·obtain⟨x,d,rfl,den,sh,hp,q1,q2⟩:=h;refine⟨_,(YE (Yt (Zf (ZC (YQ (ZT K rfl) (by rfl) T.aj YJV (YA (pv 0) (YA (JB (v:=.ty "str") (by rfl) T.cO YJZ rfl) YB))))) (YF (YAj Xn T.gM rfl (by rfl) T.gK (YA YW YB))) YY)
   (YE (YO (i:=1) XR.nd rfl (Or.inl rfl) (ZL K rfl YJd PySem.F.slot_str_split PySem.F.type_str_split YAm (pv 0) (YA YW YB)))
   (YE (Yt (PW.pt (YCJ (Yl YCM (YQ (Yc K rfl) (by rfl) T.aH YJE (YA (pv 1) YB)) YC (Yh _)) (YCJ (Zf (ZC (YK (cz base) (hr.mono (by decide)) (by rfl) cA cB cC .nil Yg (YA (YR (YU K rfl) (pv 1) YC (λ_ _=>rfl)) YB)))) (YA5 (Yl YDa (YR (YU K rfl) (pv 1) YC (λ_ _=>rfl)) YW (Yh _)))))) (YF (YAj Xn T.gM rfl (by rfl) T.gK (YA YW YB))) YY)
   (YE (YO (i:=2) XR.nd rfl (Or.inl rfl) (YCO (YA (YR (YU K rfl) (pv 1) YC (λ_ _=>rfl)) (YA (Yx (Xp K rfl) (by rfl) T.gJ YJ7 (YA (ZJ (N:=["word"]) (ρ:=[none]) (cl:=[]) rfl (Yb.plain rfl (by decide +kernel) (by decide +kernel) rfl (by simp)) (ZK K rfl (Xj (YCX K rfl) (pv 1) (X5 YC) YB7)) (λ_ _ _ _ _=>(Yf (i:=0) YFT rfl (Or.inl rfl) (.inr rfl))) (λ_ _ _ _ _=>ZI) (λ_ _ _ _ _=>(YK (jW base) (hr.mono (by decide)) (by rfl) jX jY jZ .nil Yg (YA (pv 0) YB)))) YB)) (YA (Yx YAn (by rfl) T.iV YJr (YA (YR (YU K rfl) (pv 1) YC (λ_ _=>rfl)) YB)) YB)))))
   (YE (Yt (Zf (ZC (YK (eZ base) (hr.mono (by decide)) (by rfl) e_ gb gf .nil Yg (YA (pv 2) YB)))) (YF (YAj Xn T.gM rfl (by rfl) T.gK (YA YW YB))) YY)
   (YF (YT (pv 2)))))))),?_⟩
  refine⟨_,U,_,_,_,_,_,U,den.ty,U,YAp d,_,U,?_⟩;cases d with
  |str z=>
   have ex:=den.to_str;subst ex;have hz:=YDq sh;refine ZB ?_;refine⟨_,U,U,z," ",U,U,U,(by rw[sizeLine_eq];omega),λl hl=>?_⟩;have q1:∀r,YCA (Txt.split z " ")=some r->∀p H',YI H H'->YJ H'->Den (YDo H H') p (Yp r)->Q p H':=q1;have q2:YCA (Txt.split z " ")=none->∀H',YI H H'->YJ H'->E (.ref C.NoRule) none H':=q2;have pM:∀a∈Txt.split z " ",a.length<=z.length:=λa ha=>PyProof.Rows.part_short ha
   have hwl:(Txt.split z " ").length<=z.length + 2:=YHb z " ";have s1:=YI.upd (o:=.lst ((Txt.split z " ").map V.str)) hl;have el:upd H l (.lst ((Txt.split z " ").map V.str)) l=some (.lst ((Txt.split z " ").map V.str)):=YD;have p1:YJ (upd H l (.lst ((Txt.split z " ").map V.str))):=hp.upd rfl;revert s1 el p1 q1 q2 pM hwl;generalize upd H l (.lst ((Txt.split z " ").map V.str))=H1;generalize Txt.split z " "=ws;intro q1 q2 pM hwl s1 el p1;refine⟨_,U,l,_,U,.inl (SqL.of el),_,_,U,U,_,U,?_⟩
   match ws,q1,q2,pM,hwl,el with
   |[],q1,q2,pM,hwl,el=>exact ZO (ZO ⟨YH (by decide),q2 rfl _ s1 p1⟩)
   |[_],q1,q2,pM,hwl,el=>exact ZO (ZO ⟨YH (by decide),q2 rfl _ s1 p1⟩)
   |[_,_],q1,q2,pM,hwl,el=>exact ZO (ZO ⟨YH (by decide),q2 rfl _ s1 p1⟩)
   |h :: n :: e :: ps,q1,q2,pM,hwl,el=>
    have e3:decide ((((h :: n :: e :: ps).map V.str).length:Int) < 3)=false:=YI8 (by rw[YI6];simp;omega);rw[e3];refine ZB ?_;have hh:=pM h (by simp);have hpl:ps.length<=z.length:=by simp only[YJY]at hwl;omega
    have hn:=pM n (by simp);refine⟨_,U,l,_,1,_,U,U,SqL.of el,ZH (j:=1) rfl,n,U,by omega,p1,_,U,?_⟩;refine Zt (λhf=>?_) λhf=>?_
    ·have hf':=XL hf;refine ZO ⟨YH (by decide),q2 ?_ _ s1 p1⟩;show(if (ZZ n && decide (e="="))=true then _ else none)=none;rw[hf'];rfl
    ·have hf':=J9 hf;refine⟨_,U,l,_,2,_,U,U,SqL.of el,ZH (j:=2) rfl,U,_,U,?_⟩;rw[dec_str];refine Zt (λhe=>?_) λhe=>?_
     ·have he':decide (e="=")=false:=XL he;refine⟨YH (by decide),q2 ?_ _ s1 p1⟩;show(if (ZZ n && decide (e="="))=true then _ else none)=none;rw[he',Bool.and_false];rfl
     ·have he':decide (e="=")=true:=J9 he;have ev:YCA (h :: n :: e :: ps)=if Yo (h,ps.map Yd,Xr n)=true then some (h,ps.map Yd,Xr n) else none:=by
       show(if (ZZ n && decide (e="="))=true then _ else _)=_;rw[hf',he'];rfl
      obtain⟨ft,fl⟩:=YDt hf';refine⟨_,U,l,_,0,_,U,U,SqL.of el,ZH (j:=0) rfl,_,U,_,U,l,_,U,SqL.of el,λl3 hl3=>?_⟩;rw[YHm];have s2:=YI.upd (o:=.lst (((h :: n :: e :: ps).map V.str).drop 3)) hl3;have e2:upd H1 l3 (.lst (((h :: n :: e :: ps).map V.str).drop 3)) l3=some (.lst (ps.map V.str)):=YD;have p2:YJ (upd H1 l3 (.lst (((h :: n :: e :: ps).map V.str).drop 3))):=p1.upd rfl;revert s2 e2 p2;generalize upd H1 l3 (.lst (((h :: n :: e :: ps).map V.str).drop 3))=H2;intro s2 e2 p2;refine⟨l3,U,⟨_,SqL.of e2⟩,λl4 qR=>?_⟩;refine Yw (n:=(ps.map V.str).length) 0 (λk y _=>∃z,(ps.map Yd)[k]?=some z/\y=.str z) (ZF (SqL.of e2)) (λ_ _ _ _ _ h=>h) p2 qR YJW (YH ?_) (λτ'=>0 < τ'.length) YJW (λτ' v h=>by rw[YJl];exact h) ?_ ?_
      ·rw[YI6];omega
      ·intro τ' k y H' R _ hτ hit hk hs hp' eY hR;rw[YJG]at hit;cases e:ps[k]? with
       |none=>rw[e]at hit;cases hit
       |some z=>
        rw[e]at hit;cases hit;exact⟨_,hτ,z,U,hR _ _ (YI.refl _) hp' ⟨_,by rw[YJG,e];rfl,U⟩⟩
      ·intro ys H3 hy hP hs hp' hl';have e3:ys=(ps.map Yd).map V.str:=YAE (by rw[hy,YI6,YI6]) hP;rw[e3]at hl';refine⟨l4,_,U,.inl ⟨SqL.of hl',λt5 vU=>?_⟩⟩;have s3:=YI.upd (o:=.tup ((ps.map Yd).map V.str)) vU;have qT:=(s2.trans hs).trans s3;have e5:upd H3 t5 (.tup ((ps.map Yd).map V.str)) t5=some (.tup ((ps.map Yd).map V.str)):=YD;have p3:YJ (upd H3 t5 (.tup ((ps.map Yd).map V.str))):=hp'.upd rfl;have n5:H1 t5=none:=(s2.trans hs).free vU;revert qT e5 p3;generalize upd H3 t5 (.tup ((ps.map Yd).map V.str))=H4;intro qT e5 p3;refine⟨_,U,l,_,1,_,U,U,SqL.of (qT _ _ el),ZH (j:=1) rfl,n,_,U,ft,fl,YH (by show 3<=1000;decide),λt6 uV=>?_⟩;have s4:=YI.upd (o:=.tup [.str h,.ref t5,.int (Xr n)]) uV;have e6:upd H4 t6 (.tup [.str h,.ref t5,.int (Xr n)]) t6=some (.tup [.str h,.ref t5,.int (Xr n)]):=YD;have p4:YJ (upd H4 t6 (.tup [.str h,.ref t5,.int (Xr n)])):=p3.upd rfl;have e5':=s4 _ _ e5;have ut:=(s1.trans qT).trans s4;have n6:H t6=none:=(s1.trans qT).free uV;have yO:H t5=none:=s1.free n5;revert ut e6 p4 e5';generalize upd H4 t6 (.tup [.str h,.ref t5,.int (Xr n)])=H5;intro e6 p4 e5' ut;have tV:∀{G:Hp},G t6=some (.tup [.str h,.ref t5,.int (Xr n)])->G t5=some (.tup ((ps.map Yd).map V.str))->Den G (.ref t6) (Yp (h,ps.map Yd,Xr n)):=λ{G} a b=>
        .tup a (.cons (.str _) (.cons (.tup b (YX.strs _)) (.cons (.int _) .nil)))
       refine⟨_,U,.ref t6,Yp (h,ps.map Yd,Xr n),U,tV e6 e5',?_,p4,_,U,?_⟩
       ·unfold Yp D.short;refine JU λd hd=>?_
        simp only[YJK,YJ5,or_false]at hd;rcases hd with rfl |rfl |rfl
        ·exact J8 (by show h.length<=1000;omega)
        ·unfold D.short;refine JU λd hd=>?_
         obtain⟨x,hx,rfl⟩:=YJM.mp hd;obtain⟨y,hy,rfl⟩:=YJM.mp hx;exact J8 (YEY (YJR (pM y (by simp[hy])) hz))
        ·rfl
       ·rw[YAL];refine Zt (λhr=>?_) λhr=>?_
        ·refine⟨YH (by decide),q2 ?_ _ ut p4⟩;rw[ev,XL hr];rfl
        ·refine⟨_,U,q1 _ ?_ _ _ ut p4 (tV (YFB n6 e6) (YFB yO e5'))⟩;rw[ev,J9 hr];rfl
  |_=>exact ZO ⟨YH (by decide),q2 rfl _ (YI.refl _) hp⟩
end
abbrev Jh:Stmt:=top 43
abbrev Ji:Stmt:=top 44
abbrev Jx:Stmt:=top 45
abbrev Xz:Stmt:=top 46
abbrev XS:Stmt:=top 47
abbrev YCx:Stmt:=top 48
def unsz (kvs:List (Key×V)):Sz:=kvs.filterMap λkv=>match kv.1,kv.2 with
 |Sum.inr z,.int n=>some (z,n)
 |_,_=>none
theorem YCy:∀s:Sz,unsz (szD s)=s
 |[]=>rfl
 |p :: s=>by
  show unsz ((Sum.inr p.1,V.int p.2) :: szD s)=_;unfold unsz;rw[YKQ];show p :: unsz (szD s)=_;rw[YCy s]
def YFU (H:Hp) (d:Addr):List (Key×V):=match H d with
 |some (.dK kvs)=>kvs
 |_=>[]
inductive YFV (vs:List V) (H:Hp) (Q:VK):Prop where
 |mk (d:_) (s:_) (p:_) (q:_) (aQ:vs=[.ref d,.str p,.int q]) (aR:H d=some (.dK (szD s))) (bu:Q (oV (Xb s q p)) H):YFV vs H Q
def YGz:Sp:=λvs H Q E_=>YFV vs H Q
inductive YFW (vs:List V) (H:Hp) (Q:VK):Prop where
 |mk (d:_) (s:_) (t:_) (q:_) (z:_) (p:_) (ps:_) (w:_) (aQ:vs=[.ref d,.ref t,.int q]) (aR:H d=some (.dK (szD s))) (bu:H t=some (.tup [.str z,.ref p,.int w])) (cM:H p=some (.tup (ps.map V.str))) (dR:Q (oV (Zy s q ps)) H):YFW vs H Q
def YCG:Sp:=λvs H Q E_=>YFW vs H Q
inductive YD2 (vs:List V) (H:Hp) (Q:VK):Prop where
 |mk (l:_) (xs:_) (g:_) (q:_) (aQ:vs=[.ref l,.int q]) (aR:H l=some (.lst xs)) (bu:YX H xs (g.map Yp)) (cM:Yz g=true) (dR:0<=q) (lO:YJ H) (sr:∀d s H',JG g q s->Fix g q s->H d=none->H'=upd H d (.dK (szD s))->Q (.ref d) H'):YD2 vs H Q
def YFX:Sp:=λvs H Q E_=>YD2 vs H Q
theorem oV_get (o:Option Int):(o.map V.int).getD .non=oV o:=by cases o <;> rfl
section
variable {P:Program}{w:World}{K:W.Frag}{mg:Str->Option Value}{base:Heap}{C:Adr}
theorem YBt:YS ["sizes","part","sign_size"] ["sizes","part","sign_size"] (YG Jh):=⟨U,U,U,by decide +kernel,U,by decide +kernel,by decide +kernel⟩
theorem YBu {f:Addr}{fd:FuncData} (F:Fun K "size_of_part" "size_of_part" Jh f fd) (T:Txt K mg C):Yv P w K mg base CX0 1 f fd ["sizes","part","sign_size"] (YGz):=by
 refine F.ok YBt (λvs H Q E h=>?_) (λaB A outer s H vs Q E hr h=>?_)
 ·cases h;subst_vars;rfl
 ·obtain⟨d,s,p,q,rfl,hd,k⟩:=h;have hu:=YBg hr;refine⟨_,(YF (YT (Xf (ZC (ZL K rfl YJd YKJ YKI Zx (pv 1) (YA YW YB))) (pv 2) (YIE hu (pv 0) (pv 1) ⟨U,U,U,U⟩)))),?_⟩;refine⟨_,U,U,_,_,U,U,_,U,?_⟩;unfold Xb isQ at k;refine Zt (λh1=>?_) λh1=>?_
  ·rw[if_pos h1]at k;exact⟨_,U,k⟩
  ·rw[if_neg h1]at k;refine⟨_,U,d,U,.inl ⟨_,.inl hd⟩,_,U,_,JX.k (k:=Sum.inr p) hd,?_⟩;rw[JF,oV_get];exact k
theorem ZR:YS ["sizes","rule","sign_size","size","part","more"] ["sizes","rule","sign_size"] (YG Ji):=⟨U,U,U,by decide +kernel,U,by decide +kernel,by decide +kernel⟩
theorem YBv {f:Addr}{fd:FuncData} (F:Fun K "size_of_rule" "size_of_rule" Ji f fd) (T:Txt K mg C) (bD:Y6 P w K mg CX0 1 "size_of_part" ["sizes","part","sign_size"] (YGz)):Yv P w K mg base CX0 2 f fd ["sizes","rule","sign_size"] (YCG):=by
 obtain⟨nF,mQ,gO,gP,gQ,gR⟩:=bD.ok;refine F.ok ZR (λvs H Q E h=>?_) (λaB A outer s H vs Q E hr h=>?_)
 ·cases h;subst_vars;rfl
 ·obtain⟨d,s,t,q,z,p,ps,w,rfl,hd,ht,hp,k⟩:=h;refine⟨_,(YE (YO (i:=3) ZR.nd rfl (Or.inl rfl) YC)
   (YE (Z3 PassesOwn.never rfl (X8 K rfl (YR (YZ K rfl) (pv 1) YC (λ_ _=>rfl))) (Yf (i:=4) ZR.nd rfl (Or.inl rfl)) (YE (YO (i:=5) ZR.nd rfl (Or.inl rfl) (YK (gO base) (hr.mono (by decide)) (by rfl) gP gQ gR .nil Yg (YA (pv 0) (YA (pv 4) (YA (pv 2) YB)))))
   (YE (Yt (Yl YHy (pv 5) YA4 (Yh _)) (YF (YT YA4)) YY)
   (YF (ps_aug (i:=3) ZR.nd rfl (Or.inl rfl) (pv 5) ip_add)))))
   (YF (YT (pv 3))))),?_⟩
  refine⟨_,U,t,_,1,_,U,U,SqT.of ht,U,p,U,⟨_,SqT.of hp⟩,YEH (K:=K) (a:=p) (xs:=ps.map V.str) (λi σ H2=>H2=H/\∃(acc:Int) (v v':Option V),σ=[some (.ref d),some (.ref t),some (.int q),some (.int acc),v,v']/\Za s q ps 1=Za s q (ps.drop i) acc) ⟨U,1,none,none,U,U⟩ ?_ ?_ ?_⟩
  ·rintro i σ H2 _ ⟨rfl,_⟩;exact SqT.of hp
  ·rintro i y σ H2 hi ⟨rfl,acc,v,v',rfl,hz⟩;rw[YJG]at hi;cases e:ps[i]? with
   |none=>rw[e]at hi;cases hi
   |some x=>
    rw[e]at hi;cases hi;have ed:ps.drop i=x :: ps.drop (i + 1):=by
     obtain⟨hlt,hx⟩:=YJe.mp e;rw[List.drop_eq_getElem_cons hlt,hx]
    rw[ed]at hz;have uv:Za s q ps 1=match Xb s q x with |none=>none |some m=>Za s q (ps.drop (i + 1)) (acc + m):=hz
    refine⟨_,U,_,U,_,U,d,s,x,q,U,hd,?_⟩;refine⟨_,U,U,_,U,?_⟩;cases e2:Xb s q x with
    |none=>
     rw[e2]at uv;have:Zy s q ps=none:=uv;rw[this]at k;exact ZO k
    |some m=>
     rw[e2]at uv;exact ZB ⟨_,U,_,U,_,_,U,U,U,_,_,_,U,uv⟩
  ·rintro σ H2 ⟨rfl,acc,v,v',rfl,hz⟩;rw[YI6,List.drop_length]at hz;have:Zy s q ps=some acc:=hz;rw[this]at k;exact⟨_,U,k⟩
theorem Y8:YS ["rules","sign_size","sizes","shrinking","rule","size"] ["rules","sign_size"] (YG Jx):=⟨U,U,U,by decide +kernel,U,by decide +kernel,by decide +kernel⟩
theorem YCz {f:Addr}{fd:FuncData} (F:Fun K "least_sizes" "least_sizes" Jx f fd) (T:Txt K mg C) (aa:Y6 P w K mg CX0 2 "size_of_rule" ["sizes","rule","sign_size"] (YCG)):Yv P w K mg base CX0 3 f fd ["rules","sign_size"] (YFX):=by
 obtain⟨cZ,cP,aJ,aK,aL,aM⟩:=aa.ok;refine F.ok Y8 (λvs H Q E h=>?_) (λaB A outer s H vs Q E hr h=>?_)
 ·cases h;subst_vars;rfl
 ·obtain⟨l,xs,g,q,rfl,hl,cN,hg,hq,hp,k⟩:=h;have hu:=YBg hr;have jK:=JR hg;have lr:xs.length=g.length:=by rw[cN.len,YI6]
  refine⟨_,(YE (YO (i:=2) Y8.nd rfl (Or.inl rfl) Xm)
   (YE (YO (i:=3) Y8.nd rfl (Or.inl rfl) Zu)
   (YE (YAf PassesOwn.never (ZC (pv 3)) (YE (YO (i:=3) Y8.nd rfl (Or.inl rfl) Zu)
   (YF (Z3 PassesOwn.never rfl (ZK K rfl (pv 0)) (Yf (i:=4) Y8.nd rfl (Or.inl rfl)) (YE (YO (i:=5) Y8.nd rfl (Or.inl rfl) (YK (aJ base) (hr.mono (by decide)) (by rfl) aK aL aM .nil Yg (YA (pv 2) (YA (pv 4) (YA (pv 1) YB)))))
   (YF (Yt (PW.pt (YEF (Yl YGX (pv 5) YA4 (Yh _)) (YB5 (PW.pt (YCJ (Xe (YBC hu (YR (YZ K rfl) (pv 4) YC (λ_ _=>rfl)) (pv 2))) (YA5 (Yl YCM (pv 5) (YAi hu (pv 2) (YR (YZ K rfl) (pv 4) YC (λ_ _=>rfl)) (λ_ _=>rfl)) (Yh _)))))))) (YE (XH hu (pv 2) (YR (YZ K rfl) (pv 4) YC (λ_ _=>rfl)) (pv 5) rfl)
   (YF (YO (i:=3) Y8.nd rfl (Or.inl rfl) Zu))) YY)))))))
   (YF (YT (pv 2)))))),?_⟩
  intro d hd;have ndl:d≠l:=λz=>by rw[z,hl]at hd;cases hd
  refine YCL (λσ H2=>∃(s:Sz) (b:Bool) (v4 v5:Option V),H2=upd H d (.dK (szD s))/\JG g q s/\(b=false->Fix g q s)/\σ=[some (.ref l),some (.int q),some (.ref d),some (.bl b),v4,v5])
   (λσ H2=>2 * mu g q (unsz (YFU H2 d)) + (if σ[3]?=some (some (.bl true)) then 1 else 0)) ⟨[],true,none,none,U,JG.nil g q,nofun,U⟩ ?_ ?_
  ·rintro σ H2 ⟨s,b,v4,v5,rfl,hok,q_,rfl⟩;refine⟨_,U,b,U,?_⟩;cases b with
   |false=>
    refine ZB ?_;exact⟨_,U,k d s _ hok (q_ rfl) hd rfl⟩
   |true=>
    refine ZO ?_;have hl2:∀{o:HO},upd H d o l=some (.lst xs):=λ{o}=>by rw[YN ndl.symm];exact hl
    have ekv:∀s,YFU (upd H d (.dK (szD s))) d=szD s:=λs=>by unfold YFU;rw[YD]
    refine⟨_,U,l,U,⟨_,SqL.of hl2⟩,YCK (K:=K) (a:=l) (xs:=xs) (λi σ H2=>∃(s':Sz) (b:Bool) (v4 v5:Option V),H2=upd H d (.dK (szD s'))/\JG g q s'/\(b=false->s'=s/\∀r∈g.take i,∀m,Zy s q r.2.1=some m->∃v,look s r.1=some v/\v<=m)/\(b=true->mu g q s' < mu g q s)/\σ=[some (.ref l),some (.int q),some (.ref d),some (.bl b),v4,v5])
     ⟨s,false,v4,v5,U,hok,(λ_=>⟨U,λr hr=>by cases hr⟩),nofun,U⟩ ?_ ?_ ?_⟩
    ·rintro i σ H2 _ ⟨s',b,v4,v5,rfl,_⟩;exact SqL.of hl2
    ·rintro i y σ H2 hi ⟨s',b,v4,v5,rfl,hok',mZ,hb1,rfl⟩;obtain⟨r,t,p,er,rfl,ht,gB⟩:=YB9 cN hi;have nt:t≠d:=λz=>by rw[z,hd]at ht;cases ht
     have np:p≠d:=λz=>by rw[z,hd]at gB;cases gB
     have hrm:r∈g:=YJF er;have tW:∀{o:HO},upd H d o t=some (.tup [.str r.1,.ref p,.int r.2.2]):=λ{o}=>by rw[YN nt];exact ht
     have qQ:∀{o:HO},upd H d o p=some (.tup (r.2.1.map V.str)):=λ{o}=>by rw[YN np];exact gB
     have et:g.take (i + 1)=g.take i ++ [r]:=by rw[YKE,er];rfl
     refine⟨_,U,_,U,_,U,d,s',t,q,r.1,p,r.2.1,r.2.2,U,YD,tW,qQ,?_⟩;refine⟨_,U,U,_,U,?_⟩;have stay:∀(o:Option Int),Zy s' q r.2.1=o->(∀m,o=some m->∃v,look s' r.1=some v/\v<=m)->∃(mO:Sz) (b':Bool) (w4 w5:Option V),upd H d (.dK (szD s'))=upd H d (.dK (szD mO))/\JG g q mO/\(b'=false->mO=s/\∀r∈g.take (i + 1),∀m,Zy s q r.2.1=some m->∃v,look s r.1=some v/\v<=m)/\(b'=true->mu g q mO < mu g q s)/\[some (.ref l),some (.int q),some (.ref d),some (.bl b),some (.ref t),some (oV o)]=[some (.ref l),some (.int q),some (.ref d),some (.bl b'),w4,w5]:=λo ho hv=>by
      refine⟨s',b,_,_,U,hok',λe=>?_,hb1,U⟩;obtain⟨e1,e2⟩:=mZ e;refine⟨e1,λx hx m hm=>?_⟩;rw[et]at hx;rcases YJg.mp hx with hx |hx
      ·exact e2 x hx m hm
      ·have ex:=YJa.mp hx;subst ex;subst e1;exact hv m (ho.symm.trans hm)
     cases e2:Zy s' q r.2.1 with
     |none=>
      refine ZB (ZB ?_);exact stay none e2 λm e=>nomatch e
     |some m=>
      refine ZO ?_;refine⟨_,U,t,_,0,_,U,U,SqT.of tW,U,_,U,d,_,U,JX.k (k:=Sum.inr r.1) YD,_,U,?_⟩;rw[JF];have change:(∀v,look s' r.1=some v->m < v)->∃(mO:Sz) (b':Bool) (w4 w5:Option V),upd H d (.dK (szD (ZW s' r.1 m)))=upd H d (.dK (szD mO))/\JG g q mO/\(b'=false->mO=s/\∀r∈g.take (i + 1),∀m,Zy s q r.2.1=some m->∃v,look s r.1=some v/\v<=m)/\(b'=true->mu g q mO < mu g q s)/\[some (.ref l),some (.int q),some (.ref d),some (.bl true),some (.ref t),some (oV (some m))]=[some (.ref l),some (.int q),some (.ref d),some (.bl b'),w4,w5]:=λhlt=>by
       obtain⟨yP,mu2⟩:=hok'.step hg hq hrm e2 hlt;refine⟨ZW s' r.1 m,true,_,_,U,yP,nofun,λ_=>?_,U⟩;cases b with
       |true=>exact Nat.lt_trans mu2 (hb1 rfl)
       |false=>
        obtain⟨e1,_⟩:=mZ rfl;subst e1;exact mu2
      have len:(szD s').length < sizeLine:=by
       unfold szD;rw[YI6];exact YJQ (show _ < 1000 by have:=hok'.len;omega) (YH (YJB _))
      have put:YAU (upd H d (.dK (szD s'))) d (.str r.1) (.int m) (upd H d (.dK (szD (ZW s' r.1 m)))):=by
       have:=YAU.k (k:=Sum.inr r.1) (v:=.int m) (YD (H:=H) (a:=d) (o:=.dK (szD s'))) len;rw[YGx hok'.nd,X3]at this;exact this
      cases e3:look s' r.1 with
      |none=>
       refine ZO (ZO ?_);refine⟨_,U,_,U,_,U,t,_,0,_,U,U,SqT.of tW,U,d,_,U,put,?_⟩;exact change λv e=>by rw[e3]at e;cases e
      |some v=>
       refine ZB ?_;refine⟨_,U,_,U,_,U,t,_,0,_,U,U,SqT.of tW,U,d,.int v,U,?_,_,_,U,U,_,U,?_⟩
       ·have:=JX.k (k:=Sum.inr r.1) (YD (H:=H) (a:=d) (o:=.dK (szD s')));rw[JF,e3]at this;exact this
       refine Zt (λh1=>?_) λh1=>?_
       ·refine⟨_,U,_,U,_,U,t,_,0,_,U,U,SqT.of tW,U,d,_,U,put,?_⟩;exact change λv' e=>by
         rw[e3]at e;cases e;exact YJH h1
       ·have h1':v<=m:=Int.not_lt.mp λz=>h1 (YI7 z)
        exact stay (some m) e2 λm' e=>by
         cases e;exact⟨v,e3,h1'⟩
    ·rintro σ H2 ⟨s',b,v4',v5',rfl,hok',mZ,hb1,rfl⟩;refine⟨⟨s',b,_,_,U,hok',λe=>?_,U⟩,?_⟩
     ·obtain⟨e1,e2⟩:=mZ e;subst e1;intro r hr m hm;exact e2 r (by rw[YKA (by omega)];exact hr) m hm
     ·show 2 * mu g q (unsz (YFU (upd H d (.dK (szD s'))) d)) + _ < 2 * mu g q (unsz (YFU (upd H d (.dK (szD s))) d)) + _;rw[ekv,ekv,YCy,YCy];cases b with
      |true=>
       have:=hb1 rfl;show 2 * mu g q s' + 1 < 2 * mu g q s + 1;omega
      |false=>
       obtain⟨e1,_⟩:=mZ rfl;subst e1;show 2 * mu g q s' + 0 < 2 * mu g q s' + 1;omega
  ·rintro σ H2 Q1 Q2 hQ ⟨x,e1,c,e2,h⟩;exact⟨x,e1,c,e2,hQ _ _ h⟩
end
def fsD (fs:List (Nat×Int)):List (Key×V):=fs.map λp=>(Sum.inl (p.1:Int),V.int p.2)
inductive YG0 (vs:List V) (H:Hp) (Q:VK):Prop where
 |mk (l d:Addr) (xs:List V) (r0:Y5) (Ye:List Y5) (s:Sz) (aQ:vs=[.ref l,.ref d]) (aR:H l=some (.lst xs)) (bu:YX H xs ((r0 :: Ye).map Yp)) (cM:Yz (r0 :: Ye)=true) (dR:H d=some (.dK (szD s))) (lO:JG (r0 :: Ye) 0 s) (sr:YJ H) (uW:∀t dO dS o b_ H',Xt (r0 :: Ye) s r0.1 o->YCE (r0 :: Ye) s o->YI H H'->YJ H'->H' t=some (.tup [.ref dO,.ref dS])->H' dO=some (.dK (szD o))->H' dS=some (.dK b_)->Q (.ref t) H'):YG0 vs H Q
def YIr:Sp:=λvs H Q E_=>YG0 vs H Q
inductive YD3 (vs:List V) (H:Hp) (Q:VK):Prop where
 |mk (l d:Addr) (xs:List V) (g:Ya) (s:Sz) (aQ:vs=[.ref l,.ref d]) (aR:H l=some (.lst xs)) (bu:YX H xs (g.map Yp)) (cM:Yz g=true) (dR:H d=some (.dK (szD s))) (lO:JG g 0 s) (sr:YJ H) (uW:∀dF (fs:List (Nat×Int)) H',(fs.map (·.1)).Pairwise (· < ·)->(∀k,k∈fs.map (·.1)<->YEa g s k)->(∀r0 Ye,g=r0 :: Ye->∃o,Xt g s r0.1 o/\YCE g s o/\∀p∈fs,∃r m h,g[p.1]?=some r/\Zy s 0 r.2.1=some m/\look o r.1=some h/\p.2=h + m)->YI H H'->YJ H'->H dF=none->H' dF=some (.dK (fsD fs))->Q (.ref dF) H'):YD3 vs H Q
def YFY:Sp:=λvs H Q E_=>YD3 vs H Q
inductive YD4 (C:Addr) (vs:List V) (H:Hp) (Q:VK) (E:XK):Prop where
 |mk (x:_) (d:_) (aQ:vs=[x]) (aR:Den H x d) (bu:d.short=true) (cM:YJ H) (dR:(∀g,d=Jr g->Yz g=true->∀l s (ks:List Nat) H',JG g 0 s->Fix g 0 s->ks.Pairwise (· < ·)->(∀k,k∈ks<->YEa g s k)->YI H H'->YJ H'->H l=none->H' l=some (.lst (ks.map λk:Nat=>V.int (k:Int)))->Q (.ref l) H')) (lO:(Jq d=false->∀H',YI H H'->YJ H'->E (.ref C) none H')):YD4 C vs H Q E
def YFZ (C:Addr):Sp:=λvs H Q E=>YD4 C vs H Q E
theorem YIs {kvs:List (Key×V)}{k:Key} (v:V) (hm:k∈kvs.map (·.1)):(Zg kvs k v).map (·.1)=kvs.map (·.1):=by
 unfold Zg;obtain⟨q,hq,e⟩:=YJM.mp hm;rw[if_pos (List.any_eq_true.mpr ⟨q,hq,YI7 e⟩),YJz];refine YJ8 λq _=>?_
 show(if q.1=k then (q.1,v) else q).1=q.1;split <;> rfl
theorem YIt {kvs:List (Key×V)}{k:Key} (v:V) (hm:¬k∈kvs.map (·.1)):(Zg kvs k v).map (·.1)=kvs.map (·.1) ++ [k]:=by
 unfold Zg;rw[if_neg,YJj]
 ·rfl
 ·intro h;obtain⟨q,hq,e⟩:=List.any_eq_true.mp h;exact hm (YJM.mpr ⟨q,hq,YJH e⟩)
def Jy (o:Sz):List Key:=o.map λp=>Sum.inr p.1
theorem YIu {o:Sz}{kvs:List (Key×V)} (h:kvs.map (·.1)=Jy o) (p:Str) (n:Int) (v:V):(Zg kvs (Sum.inr p) v).map (·.1)=Jy (ZW o p n):=by
 have e:∀o:Sz,Jy o=(o.map (·.1)).map Sum.inr:=λo=>by unfold Jy;rw[YJz];rfl
 by_cases hm:p∈o.map (·.1)
 ·rw[YIs v (by rw[h,e];exact YJM.mpr ⟨p,hm,U⟩),h,e,e,Xs,if_pos hm]
 ·rw[YIt v,h,e,e,Xs,if_neg hm,YJj]
  ·rfl
  ·rw[h,e];intro m;obtain⟨q,hq,e2⟩:=YJM.mp m;exact hm (Sum.inr.inj e2 ▸ hq)
theorem YD5 {kvs:List (Key×V)}{k:Key} (v:V) (hm:¬k∈kvs.map (·.1)):Zg kvs k v=kvs ++ [(k,v)]:=by
 unfold Zg;rw[if_neg];intro h;obtain⟨q,hq,e⟩:=List.any_eq_true.mp h;exact hm (YJM.mpr ⟨q,hq,YJH e⟩)
theorem YIv (fs:List (Nat×Int)) {k:Nat} (h:¬k∈fs.map (·.1)):¬(Sum.inl (k:Int):Key)∈(fsD fs).map (·.1):=λm=>by
 unfold fsD at m;rw[YJz]at m;obtain⟨q,hq,e⟩:=YJM.mp m;have e:(Sum.inl (q.1:Int):Key)=Sum.inl (k:Int):=e;have:q.1=k:=by have:=Sum.inl.inj e;omega
 exact h (YJM.mpr ⟨q,hq,this⟩)
theorem YCH {H:Hp}{d:Addr}{s:Sz}{z:Str}{v:Int} (hd:H d=some (.dK (szD s))) (h:look s z=some v):JX H d (.str z) (some (.int v)):=by
 have:=JX.k (k:=Sum.inr z) hd;rw[JF,h]at this;exact this
theorem YGS {xs ys:List Nat} (h:xs.Nodup) (hs:∀x∈xs,x∈ys):xs.length<=ys.length:=by
 induction xs generalizing ys with
 |nil=>exact YJh _
 |cons x xs ih=>
  rw[YJo]at h;have hx:=hs x (YJI ..);have:=ih (ys:=ys.erase x) h.2 λy hy=>by
   have hne:y≠x:=λe=>h.1 (e ▸ hy)
   exact(List.mem_erase_of_ne hne).mpr (hs y (YJD _ hy))
  rw[List.length_erase_of_mem hx]at this;have hpos:=List.length_pos_of_mem hx;rw[YJY];omega
section
variable {P:Program}{w:World}{K:W.Frag}{mg:Str->Option Value}{base:Heap}{C:Adr}
theorem Yr:YS ["rules","sizes","outer","steps","shrinking","number","rule","size","place","part","more"] ["rules","sizes"] (YG Xz):=⟨U,U,U,by decide +kernel,U,by decide +kernel,by decide +kernel⟩
theorem YEj {f:Addr}{fd:FuncData} (F:Fun K "ways_down" "ways_down" Xz f fd) (T:Txt K mg C) (aa:Y6 P w K mg CX0 2 "size_of_rule" ["sizes","rule","sign_size"] (YCG)):Yv P w K mg base CX0 3 f fd ["rules","sizes"] (YIr):=by
 obtain⟨cZ,cP,aJ,aK,aL,aM⟩:=aa.ok;refine F.ok Yr (λvs H Q E h=>?_) (λaB A outer s H vs Q E hr h=>?_)
 ·cases h;subst_vars;rfl
 ·obtain⟨l,d,xs,r0,Ye,s,rfl,hl,cN,hg,hd,hs,hp,q⟩:=h;have hu:=YBg hr;refine⟨_,(YE (YO (i:=2) Yr.nd rfl (Or.inl rfl) (YGa (YE3 (YR (YZ K rfl) (YR (YU K rfl) (pv 0) YC (λ_ _=>rfl)) YC (λ_ _=>rfl)) YC YGZ) rfl rfl nofun (by simp)))
   (YE (YO (i:=3) Yr.nd rfl (Or.inl rfl) (YGa (YE3 (YR (YZ K rfl) (YR (YU K rfl) (pv 0) YC (λ_ _=>rfl)) YC (λ_ _=>rfl)) YA4 YGZ) rfl rfl nofun (by simp)))
   (YE (YO (i:=4) Yr.nd rfl (Or.inl rfl) Zu)
   (YE (YAf PassesOwn.never (ZC (pv 4)) (YE (YO (i:=4) Yr.nd rfl (Or.inl rfl) Zu)
   (YF (Z3 PassesOwn.never rfl (YGf K rfl rfl T.cU (YA (pv 0) YB)) (YEQ K rfl (n:=2) rfl (J2 (Yf (i:=5) Yr.nd rfl (Or.inl rfl)) (J2 (Yf (i:=6) Yr.nd rfl (Or.inl rfl)) YEG))) (YE (YO (i:=7) Yr.nd rfl (Or.inl rfl) (YK (aJ base) (hr.mono (by decide)) (by rfl) aK aL aM .nil Yg (YA (pv 1) (YA (pv 6) (YA YC YB)))))
   (YE (Yt (PW.pt (YCJ (Yl YHy (pv 7) YA4 (Yh _)) (YA5 (Xe (YBC hu (YR (YZ K rfl) (pv 6) YC (λ_ _=>rfl)) (pv 2)))))) (YF YBd) YY)
   (YF (Z3 PassesOwn.never rfl (YIm K rfl rfl T.cU (YA (YR (YZ K rfl) (pv 6) YC (λ_ _=>rfl)) YB)) (YEQ K rfl (n:=2) rfl (J2 (Yf (i:=8) Yr.nd rfl (Or.inl rfl)) (J2 (Yf (i:=9) Yr.nd rfl (Or.inl rfl)) YEG))) (YE (Yt (ZC (ZL K rfl YJd YKJ YKI Zx (pv 9) (YA YW YB))) (YF YBd) YY)
   (YE (YO (i:=10) Yr.nd rfl (Or.inl rfl) (YL YEI (YL ZD (YAi hu (pv 2) (YR (YZ K rfl) (pv 6) YC (λ_ _=>rfl)) (λ_ _=>rfl)) (pv 7)) (YAi hu (pv 1) (pv 9) (λ_ _=>rfl))))
   (YF (Yt (PW.pt (YCJ (Xe (YBC hu (pv 9) (pv 2))) (YA5 (Yl YCM (pv 10) (YAi hu (pv 2) (pv 9) (λ_ _=>rfl)) (Yh _))))) (YE (XH hu (pv 2) (pv 9) (pv 10) rfl)
   (YE (XH hu (pv 3) (pv 9) (YCO (YA (pv 5) (YA (pv 8) YB))) rfl)
   (YF (YO (i:=4) Yr.nd rfl (Or.inl rfl) Zu)))) YY))))))))))))
   (YF (YT (YCO (YA (pv 2) (YA (pv 3) YB))))))))),?_⟩
  have jK:=JR hg;have lr:xs.length=(r0 :: Ye).length:=by rw[cN.len,YI6]
  obtain⟨x0,xr,exs⟩:∃x0 xr,xs=x0 :: xr:=by
   cases xs with
   |nil=>cases lr
   |cons a b=>exact⟨a,b,U⟩
  have vV:xs[0]?=some x0:=by rw[exs];rfl
  obtain⟨r00,t0,p0,yQ,yR,uw,yC⟩:=YB9 cN vV;cases yQ;have vW:atI xs 0=some (.ref t0):=by rw[<-yR];exact ZH (j:=0) vV
  have uX:r0.1∈(r0 :: Ye).map (·.1):=YJI ..;obtain⟨g,eg⟩:∃g,r0 :: Ye=g:=⟨_,U⟩;rw[eg]at cN hg hs q jK lr uX;intro dO hdO;have sa:=YI.upd (o:=.dK []) hdO;refine⟨_,U,l,_,0,_,U,U,SqL.of (sa _ _ hl),vW,t0,_,0,_,U,U,SqT.of (sa _ _ uw),U,YD,[(Sum.inr r0.1,.int 0)],U,(show 1<=15 by decide),?_⟩;rw[X3];intro dS hdS;have ndS:dS≠dO:=λz=>by rw[z,YD]at hdS;cases hdS
  have sb:=(YI.upd (o:=.dK (ZY [] [(Sum.inr r0.1,V.int 0)])) hdO).trans (YI.upd (o:=.dK []) hdS);refine⟨_,U,l,_,0,_,U,U,SqL.of (sb _ _ hl),vW,t0,_,0,_,U,U,SqT.of (sb _ _ uw),U,YD,[(Sum.inr r0.1,.non)],U,(show 1<=15 by decide),?_⟩;rw[X3];have uF:H dS=none:=(YI.upd (o:=.dK (ZY [] [(Sum.inr r0.1,V.int 0)])) hdO).free hdS;have s3:=(YI.upd (o:=.dK (ZY [] [(Sum.inr r0.1,V.int 0)])) hdO).trans (YI.upd (o:=.dK (ZY [] [(Sum.inr r0.1,V.non)])) hdS);have o3:upd (upd H dO (.dK (ZY [] [(Sum.inr r0.1,V.int 0)]))) dS (.dK (ZY [] [(Sum.inr r0.1,V.non)])) dO=some (.dK (szD [(r0.1,0)])):=by rw[YN ndS.symm,YD];rfl
  have d3:upd (upd H dO (.dK (ZY [] [(Sum.inr r0.1,V.int 0)]))) dS (.dK (ZY [] [(Sum.inr r0.1,V.non)])) dS=some (.dK [(Sum.inr r0.1,.non)]):=by rw[YD];rfl
  have p3:YJ (upd (upd H dO (.dK (ZY [] [(Sum.inr r0.1,V.int 0)]))) dS (.dK (ZY [] [(Sum.inr r0.1,V.non)]))):=(hp.upd rfl).upd rfl;revert s3 o3 d3 p3;generalize upd (upd H dO (.dK (ZY [] [(Sum.inr r0.1,V.int 0)]))) dS (.dK (ZY [] [(Sum.inr r0.1,V.non)]))=H3;intro s3 o3 d3 p3;refine⟨λμ σ H4=>∃(o:Sz) (b_:List (Key×V)) (b:Bool) (v5 v6 v7 v8 v9 m6:Option V),σ=[some (.ref l),some (.ref d),some (.ref dO),some (.ref dS),some (.bl b),v5,v6,v7,v8,v9,m6]/\H4 dO=some (.dK (szD o))/\H4 dS=some (.dK b_)/\b_.map (·.1)=Jy o/\Xt g s r0.1 o/\(b=false->YCE g s o)/\
    μ=2 * mu2 g o + (if b=true then 1 else 0)/\YI H H4/\YJ H4,⟨_,[(r0.1,0)],[(Sum.inr r0.1,.non)],true,none,none,none,none,none,none,U,o3,d3,U,Xt.first g s r0.1,nofun,U,s3,p3⟩,?_⟩
  rintro μ σ H4 ⟨o,b_,b,v5,v6,v7,v8,v9,m6,rfl,o4,d4,k4,w4,fx,hμ,s4,p4⟩;refine⟨_,U,b,U,?_⟩;cases b with
  |false=>
   refine ZB ⟨_,U,_,U,YH (by show 2<=1000;decide),λt ht=>?_⟩;have s5:=YI.upd (o:=.tup [.ref dO,.ref dS]) ht;exact q t dO dS o b_ _ w4 (fx rfl) (s4.trans s5) (p4.upd rfl) YD (s5 _ _ o4) (s5 _ _ d4)
  |true=>
   refine ZO ⟨_,λ_ _ h=>h,?_⟩;refine⟨_,U,l,U,⟨xs,.inl (s4 _ _ hl)⟩,?_⟩;refine YFI (K:=K) (a:=l) (xs:=xs) (λi σ H5=>∃(o':Sz) (b_:List (Key×V)) (b:Bool) (v5 v6 v7 v8 v9 m6:Option V),σ=[some (.ref l),some (.ref d),some (.ref dO),some (.ref dS),some (.bl b),v5,v6,v7,v8,v9,m6]/\H5 dO=some (.dK (szD o'))/\H5 dS=some (.dK b_)/\b_.map (·.1)=Jy o'/\Xt g s r0.1 o'/\
     (b=false->o'=o/\∀r∈g.take i,∀p∈r.2.1,Je s o r p)/\(b=true->mu2 g o' < mu2 g o)/\YI H H5/\YJ H5)
    ⟨o,b_,false,v5,v6,v7,v8,v9,m6,U,o4,d4,k4,w4,(λ_=>⟨U,λr hr=>nomatch hr⟩),nofun,s4,p4⟩ ?_ ?_ ?_
   ·rintro i σ H5 _ ⟨_,_,_,_,_,_,_,_,_,rfl,_,_,_,_,_,_,s5,_⟩;exact SqL.of (s5 _ _ hl)
   ·rintro i y T1 σ H5 hi hT1 ⟨o',qt,b,v5,v6,v7,v8,v9,m6,rfl,o5,d5,k5,w5,mZ,hb1,s5,p5⟩;obtain⟨r,t,p,er,rfl,ht,gB⟩:=YB9 cN hi;have hrm:r∈g:=YJF er;have et:g.take (i + 1)=g.take i ++ [r]:=by rw[YKE,er];rfl
    refine⟨T1,_,U,SqT.of YD,U,_,_,U,_,_,U,U,?_⟩;have s6:=YI.upd (o:=.tup [.int (i:Nat),.ref t]) hT1;have p6:YJ (upd H5 T1 (.tup [.int (i:Nat),.ref t])):=p5.upd rfl;have o6:=s6 _ _ o5;have d6:=s6 _ _ d5;have m7:=s5.trans s6;revert s6 p6 o6 d6 m7;generalize upd H5 T1 (.tup [.int (i:Nat),.ref t])=H6;intro s6 p6 o6 d6 m7;have t6:=m7 _ _ ht;refine⟨_,U,_,U,d,s,t,0,r.1,p,r.2.1,r.2.2,U,m7 _ _ hd,t6,m7 _ _ gB,?_⟩;have skip:(∀p∈r.2.1,Je s o' r p)->∀vX,∃(tX:Sz) (b_:List (Key×V)) (b':Bool) (w5 w6 w7 w8 w9 uY:Option V),[some (.ref l),some (.ref d),some (.ref dO),some (.ref dS),some (V.bl b),some (.int (i:Nat)),some (.ref t),vX,v8,v9,m6]=[some (.ref l),some (.ref d),some (.ref dO),some (.ref dS),some (.bl b'),w5,w6,w7,w8,w9,uY]/\H6 dO=some (.dK (szD tX))/\H6 dS=some (.dK b_)/\b_.map (·.1)=Jy tX/\Xt g s r0.1 tX/\
      (b'=false->tX=o/\∀r∈g.take (i + 1),∀p∈r.2.1,Je s o r p)/\(b'=true->mu2 g tX < mu2 g o)/\YI H H6/\YJ H6:=λuo vX=>by
     refine⟨o',qt,b,_,_,_,_,_,_,U,o6,d6,k5,w5,λe=>?_,hb1,m7,p6⟩;obtain⟨e1,e2⟩:=mZ e;refine⟨e1,λr' hr'=>?_⟩;rw[et]at hr';rcases YJg.mp hr' with hr' |hr'
     ·exact e2 r' hr'
     ·rw[YJa.mp hr'];rw[e1]at uo;exact uo
    cases em:Zy s 0 r.2.1 with
    |none=>
     refine⟨_,U,U,_,U,?_⟩;exact skip (λp _ m h sp e1=>by rw[em]at e1;cases e1) _
    |some m=>
     refine⟨_,U,U,_,U,?_⟩;refine ZB ⟨_,U,t,_,0,_,U,U,SqT.of t6,U,_,U,dO,_,U,JX.k (k:=Sum.inr r.1) o6,_,U,?_⟩;rw[JF,YKC];cases eh:look o' r.1 with
     |none=>exact skip (λp _ m' h sp e1 e2=>by rw[eh]at e2;cases e2) _
     |some h=>
      refine ZB ?_;refine⟨_,U,t,_,1,_,U,U,SqT.of t6,U,p,U,⟨_,SqT.of (m7 _ _ gB)⟩,?_⟩;refine YHh (K:=K) (a:=p) (xs:=r.2.1.map V.str) (λj σ H7=>∃(o2:Sz) (b_:List (Key×V)) (b:Bool) (v8 v9 m6:Option V),σ=[some (.ref l),some (.ref d),some (.ref dO),some (.ref dS),some (.bl b),some (.int (i:Nat)),some (.ref t),some (.int m),v8,v9,m6]/\H7 dO=some (.dK (szD o2))/\H7 dS=some (.dK b_)/\b_.map (·.1)=Jy o2/\Xt g s r0.1 o2/\
        (b=false->o2=o/\(∀r∈g.take i,∀p∈r.2.1,Je s o r p)/\∀p∈r.2.1.take j,Je s o r p)/\(b=true->mu2 g o2 < mu2 g o)/\(∃h,look o2 r.1=some h)/\YI H H7/\YJ H7)
       ⟨o',qt,b,_,_,_,U,o6,d6,k5,w5,(λe=>⟨(mZ e).1,(mZ e).2,λp hp=>nomatch hp⟩),hb1,⟨h,eh⟩,m7,p6⟩ ?_ ?_ ?_
      ·rintro j σ H7 _ ⟨_,_,_,_,_,_,rfl,_,_,_,_,_,_,_,s7,_⟩;exact SqT.of (s7 _ _ gB)
      ·rintro j y T2 σ H7 hj hT2 ⟨o2,dG,b2,v8,v9,m6,rfl,o7,d7,k7,w7,hc0,hc1,⟨h2,rG⟩,s7,p7⟩;rw[YJG]at hj;cases ex:r.2.1[j]? with
       |none=>rw[ex]at hj;cases hj
       |some x=>
        rw[ex]at hj;cases hj;have vY:x∈r.2.1:=YJF ex;have ej:r.2.1.take (j + 1)=r.2.1.take j ++ [x]:=by rw[YKE,ex];rfl
        refine⟨T2,_,U,SqT.of YD,U,_,_,U,_,_,U,U,?_⟩;have s8:=YI.upd (o:=.tup [.int (j:Nat),.str x]) hT2;have p8:YJ (upd H7 T2 (.tup [.int (j:Nat),.str x])):=p7.upd rfl;have o8:=s8 _ _ o7;have d8:=s8 _ _ d7;have rH:=s7.trans s8;revert s8 p8 o8 d8 rH;generalize upd H7 T2 (.tup [.int (j:Nat),.str x])=H8;intro s8 p8 o8 d8 rH;have t8:=rH _ _ ht;have keep:Je s o2 r x->b2=false->o2=o/\(∀r∈g.take i,∀p∈r.2.1,Je s o r p)/\∀p∈r.2.1.take (j + 1),Je s o r p:=λyS e=>by
         obtain⟨e1,e2,e3⟩:=hc0 e;refine⟨e1,e2,λp hp=>?_⟩;rw[ej]at hp;rcases YJg.mp hp with hp |hp
         ·exact e3 p hp
         ·rw[YJa.mp hp,<-e1];exact yS
        refine⟨_,U,U,_,_,U,U,_,U,?_⟩;refine Zt (λhq=>?_) λhq=>?_
        ·exact⟨o2,dG,b2,_,_,_,U,o8,d8,k7,w7,keep (λm' h' sp _ _ e3=>by rw[show isQ x=true from hq]at e3;cases e3),hc1,⟨h2,rG⟩,rH,p8⟩
        ·have hq':isQ x=false:=Bool.eq_false_iff.mpr hq;obtain⟨sp,esp,_⟩:=(Zo hs.pos em).2 x vY hq';refine⟨_,U,_,U,t,_,0,_,U,U,SqT.of t8,U,dO,.int h2,U,YCH o8 rG,_,U,_,_,U,U,_,U,_,U,d,.int sp,U,YCH (rH _ _ hd) esp,_,_,U,U,?_⟩;have len:(szD o2).length < sizeLine:=by
          unfold szD;rw[YI6];have:=w7.len hs uX;exact YJQ (show _ < 1000 by omega) (YH (YJB _))
         have tY:dG.length < sizeLine:=by
          have h1:=YJ2 List.length k7;unfold Jy at h1;rw[YI6,YI6]at h1;unfold szD at len;rw[YI6]at len;omega
         have tZ:YAU H8 dO (.str x) (.int (h2 + m - sp)) (upd H8 dO (.dK (szD (ZW o2 x (h2 + m - sp))))):=by
          have:=YAU.k (k:=Sum.inr x) (v:=.int (h2 + m - sp)) o8 len;rw[YGx w7.nd]at this;exact this
         have sU:YI H (upd H8 dO (.dK (szD (ZW o2 x (h2 + m - sp))))):=rH.put hdO;have dU:upd H8 dO (.dK (szD (ZW o2 x (h2 + m - sp)))) dS=some (.dK dG):=by rw[YN ndS];exact d8
         have fin:(∀v,look o2 x=some v->h2 + m - sp < v)->∀T3,upd H8 dO (.dK (szD (ZW o2 x (h2 + m - sp)))) T3=none->
           ∃(o3:Sz) (b_:List (Key×V)) (b:Bool) (w8 w9 uY:Option V),[some (.ref l),some (.ref d),some (.ref dO),some (.ref dS),some (V.bl true),some (.int (i:Nat)),some (.ref t),some (.int m),some (.int (j:Nat)),some (.str x),some (.int (h2 + m - sp))]=[some (.ref l),some (.ref d),some (.ref dO),some (.ref dS),some (.bl b),some (.int (i:Nat)),some (.ref t),some (.int m),w8,w9,uY]/\
            upd (upd (upd H8 dO (.dK (szD (ZW o2 x (h2 + m - sp))))) T3 (.tup [.int (i:Nat),.int (j:Nat)])) dS (.dK (Zg dG (Sum.inr x) (.ref T3))) dO=some (.dK (szD o3))/\upd (upd (upd H8 dO (.dK (szD (ZW o2 x (h2 + m - sp))))) T3 (.tup [.int (i:Nat),.int (j:Nat)])) dS (.dK (Zg dG (Sum.inr x) (.ref T3))) dS=some (.dK b_)/\b_.map (·.1)=Jy o3/\Xt g s r0.1 o3/\
        (b=false->o3=o/\(∀r∈g.take i,∀p∈r.2.1,Je s o r p)/\∀p∈r.2.1.take (j + 1),Je s o r p)/\(b=true->mu2 g o3 < mu2 g o)/\(∃h,look o3 r.1=some h)/\YI H (upd (upd (upd H8 dO (.dK (szD (ZW o2 x (h2 + m - sp))))) T3 (.tup [.int (i:Nat),.int (j:Nat)])) dS (.dK (Zg dG (Sum.inr x) (.ref T3))))/\YJ (upd (upd (upd H8 dO (.dK (szD (ZW o2 x (h2 + m - sp))))) T3 (.tup [.int (i:Nat),.int (j:Nat)])) dS (.dK (Zg dG (Sum.inr x) (.ref T3)))):=λhless T3 hT3=>by
          obtain⟨yU,uZ⟩:=w7.step hg hs uX hrm vY hq' em rG esp hless;have nT:dO≠T3:=λz=>by rw[<-z,YD]at hT3;cases hT3
          refine⟨ZW o2 x (h2 + m - sp),Zg dG (Sum.inr x) (.ref T3),true,_,_,_,U,by rw[YN ndS.symm,YN nT];exact YD,YD,YIu k7 x _ _,yU,nofun,λ_=>?_,?_,(sU.trans (YI.upd hT3)).put uF,((p8.upd rfl).upd rfl).upd rfl⟩
          ·cases b2 with
           |true=>exact Nat.lt_trans uZ (hc1 rfl)
           |false=>
            rw[(hc0 rfl).1]at uZ ⊢;exact uZ
          ·rw[ZM];split
           ·exact⟨_,U⟩
           ·exact⟨h2,rG⟩
         refine⟨_,U,_,U,dO,_,U,JX.k (k:=Sum.inr x) o8,_,U,?_⟩;rw[JF,YKC];cases ev:look o2 x with
         |none=>
          refine⟨_,U,_,U,_,U,dO,_,U,tZ,_,U,_,U,YH (by show 2<=1000;decide),λT3 hT3=>⟨_,U,_,U,dS,_,U,YAU.k (k:=Sum.inr x) ((YI.upd hT3) _ _ dU) tY,?_⟩⟩;exact fin (λv e=>by rw[ev]at e;cases e) T3 hT3
         |some v=>
          refine ZB ⟨_,U,_,U,_,U,dO,.int v,U,YCH o8 ev,_,_,U,U,_,U,Zt (λhv=>?_) λhv=>?_⟩
          ·refine⟨_,U,_,U,_,U,dO,_,U,tZ,_,U,_,U,YH (by show 2<=1000;decide),λT3 hT3=>⟨_,U,_,U,dS,_,U,YAU.k (k:=Sum.inr x) ((YI.upd hT3) _ _ dU) tY,?_⟩⟩;exact fin (λv' e=>by rw[ev]at e;cases e;exact YJH hv) T3 hT3
          ·refine⟨o2,dG,b2,_,_,_,U,o8,d8,k7,w7,keep (λm' h' sp' e1 e2 _ e4=>?_),hc1,⟨h2,rG⟩,rH,p8⟩;rw[em]at e1;rw[rG]at e2;rw[esp]at e4;cases e1;cases e2;cases e4;exact⟨v,ev,by have:¬h2 + m - sp < v:=λz=>hv (YI7 z);omega⟩
      ·rintro σ H7 ⟨o2,dG,b2,v8,v9,m6,rfl,o7,d7,k7,w7,hc0,hc1,⟨h2,rG⟩,s7,p7⟩;refine⟨o2,dG,b2,_,_,_,_,_,_,U,o7,d7,k7,w7,λe=>?_,hc1,s7,p7⟩;obtain⟨e1,e2,e3⟩:=hc0 e;rw[YI6,List.take_length]at e3;refine⟨e1,λr' hr'=>?_⟩;rw[et]at hr';rcases YJg.mp hr' with hr' |hr'
       ·exact e2 r' hr'
       ·rw[YJa.mp hr'];exact e3
   ·rintro σ H5 ⟨o',qt,b,v5,v6,v7,v8,v9,m6,rfl,o5,d5,k5,w5,mZ,hb1,s5,p5⟩;refine⟨_,?_,o',qt,b,_,_,_,_,_,_,U,o5,d5,k5,w5,λe=>?_,U,s5,p5⟩
    ·rw[hμ];cases b with
     |true=>
      have:=hb1 rfl;show 2 * mu2 g o' + 1 < 2 * mu2 g o + 1;omega
     |false=>
      obtain⟨e1,_⟩:=mZ rfl;rw[e1];show 2 * mu2 g o + 0 < 2 * mu2 g o + 1;omega
    ·obtain⟨e1,e2⟩:=mZ e;rw[lr,List.take_length]at e2;rw[e1];exact e2
theorem ZU:YS ["rules","sizes","outer","found","number","rule","size"] ["rules","sizes"] (YG XS):=⟨U,U,U,by decide +kernel,U,by decide +kernel,by decide +kernel⟩
theorem YDR {f:Addr}{fd:FuncData} (F:Fun K "sizes_with" "sizes_with" XS f fd) (T:Txt K mg C) (c7:Y6 P w K mg CX0 3 "ways_down" ["rules","sizes"] (YIr)) (aa:Y6 P w K mg CX0 2 "size_of_rule" ["sizes","rule","sign_size"] (YCG)):Yv P w K mg base CX0 4 f fd ["rules","sizes"] (YFY):=by
 obtain⟨qH,pW,j4,j5,j6,j7⟩:=c7.ok;obtain⟨cZ,cP,aJ,aK,aL,aM⟩:=aa.ok;refine F.ok ZU (λvs H Q E h=>?_) (λaB A outer s H vs Q E hr h=>?_)
 ·cases h;subst_vars;rfl
 ·obtain⟨l,d,xs,g,s,rfl,hl,cN,hg,hd,hs,hp,q⟩:=h;have hu:=YBg hr;refine⟨_,(YE (Yt (Zf (YHQ K rfl (pv 0) (λ_=>rfl))) (YF (YT Xm)) YY)
   (YE (YO (i:=2) ZU.nd rfl (Or.inl rfl) (YR (YZ K rfl) (YK (j4 base) (hr.mono (by decide)) (by rfl) j5 j6 j7 .nil Yg (YA (pv 0) (YA (pv 1) YB))) YC (λ_ _=>rfl)))
   (YE (YO (i:=3) ZU.nd rfl (Or.inl rfl) Xm)
   (YE (Z3 PassesOwn.never rfl (YGf K rfl rfl T.cU (YA (pv 0) YB)) (YEQ K rfl (n:=2) rfl (J2 (Yf (i:=4) ZU.nd rfl (Or.inl rfl)) (J2 (Yf (i:=5) ZU.nd rfl (Or.inl rfl)) YEG))) (YE (YO (i:=6) ZU.nd rfl (Or.inl rfl) (YK (aJ base) (hr.mono (by decide)) (by rfl) aK aL aM .nil Yg (YA (pv 1) (YA (pv 5) (YA YC YB)))))
   (YF (Yt (PW.pt (YEF (Yl YGX (pv 6) YA4 (Yh _)) (YB5 (Xe (YCS hu (YR (YZ K rfl) (pv 5) YC (λ_ _=>rfl)) (pv 2)))))) (YF (XH hu (pv 3) (pv 4) (YL ZD (YAi hu (pv 2) (YR (YZ K rfl) (pv 5) YC (λ_ _=>rfl)) (λ_ _=>rfl)) (pv 6)) rfl)) YY))))
   (YF (YT (pv 3))))))),?_⟩
  have jK:=JR hg;have lr:xs.length=g.length:=by rw[cN.len,YI6]
  refine⟨_,U,_,.inl ⟨xs,SqL.of hl,U⟩,?_⟩;cases g with
  |nil=>
   cases xs with
   |cons a b=>cases lr
   |nil=>
    refine ZO λdF hdF=>?_
    refine q dF [] _ List.Pairwise.nil (λk=>⟨(λhk=>nomatch hk),λhk=>?_⟩) (λr0 Ye e=>nomatch e) (YI.upd hdF) (hp.upd rfl) hdF YD;obtain⟨_,_,_,e,_⟩:=hk;cases e
  |cons r0 Ye=>
   have hne:(!xs.isEmpty)=true:=by
    cases xs with
    |nil=>cases lr
    |cons a b=>rfl
   rw[hne];refine ZB ?_;refine⟨_,U,_,U,l,d,xs,r0,Ye,s,U,hl,cN,hg,hd,hs,hp,λt dO dS o b_ H1 wy fx s1 p1 ht hO hS=>⟨t,_,0,_,U,U,SqT.of ht,U,?_⟩⟩;obtain⟨g,eg⟩:∃g,r0 :: Ye=g:=⟨_,U⟩;rw[eg]at cN hg hs jK lr wy fx q;intro dF hdF;have s2:=YI.upd (o:=.dK []) hdF;have sI:H dF=none:=s1.free hdF;refine⟨_,U,l,U,⟨xs,.inl ((s1.trans s2) _ _ hl)⟩,?_⟩;refine YFI (K:=K) (a:=l) (xs:=xs) (λi σ H3=>∃(fs:List (Nat×Int)) (v4 v5 v6:Option V),σ=[some (.ref l),some (.ref d),some (.ref dO),some (.ref dF),v4,v5,v6]/\H3 dF=some (.dK (fsD fs))/\(fs.map (·.1)).Pairwise (· < ·)/\(∀k,k∈fs.map (·.1)<->k < i/\YEa g s k)/\
     (∀p∈fs,∃r m h,g[p.1]?=some r/\Zy s 0 r.2.1=some m/\look o r.1=some h/\p.2=h + m)/\YI H1 H3/\YJ H3)
    ⟨[],none,none,none,U,YD,List.Pairwise.nil,λk=>⟨(λhk=>nomatch hk),λhk=>absurd hk.1 (YKS _)⟩,(λp hp=>nomatch hp),s2,p1.upd rfl⟩ ?_ ?_ ?_
   ·rintro i σ H3 _ ⟨_,_,_,_,rfl,_,_,_,_,s3,_⟩;exact SqL.of ((s1.trans s3) _ _ hl)
   ·rintro i y T1 σ H3 hi hT1 ⟨fs,v4,v5,v6,rfl,u6,srt,mem,fct,s3,p3⟩;obtain⟨r,tt,p,er,rfl,uO,gB⟩:=YB9 cN hi;refine⟨T1,_,U,SqT.of YD,U,_,_,U,_,_,U,U,?_⟩;have s6:=YI.upd (o:=.tup [.int (i:Nat),.ref tt]) hT1;have p6:YJ (upd H3 T1 (.tup [.int (i:Nat),.ref tt])):=p3.upd rfl;have f6:=s6 _ _ u6;have rJ:=s3.trans s6;have O6:=rJ _ _ hO;revert s6 p6 f6 rJ O6;generalize upd H3 T1 (.tup [.int (i:Nat),.ref tt])=H6;intro s6 p6 f6 rJ O6;have m7:=s1.trans rJ;have t6:=m7 _ _ uO;refine⟨_,U,_,U,d,s,tt,0,r.1,p,r.2.1,r.2.2,U,m7 _ _ hd,t6,m7 _ _ gB,?_⟩;have notin:¬i∈fs.map (·.1):=λhm=>YJw _ ((mem i).mp hm).1
    have skip:¬YEa g s i->∀k,k∈fs.map (·.1)<->k < i + 1/\YEa g s k:=λhn k=>by
     rw[mem k];constructor
     ·rintro⟨a,b⟩;exact⟨by omega,b⟩
     ·rintro⟨a,b⟩;refine⟨?_,b⟩;have:k≠i:=λe=>hn (e ▸ b)
      omega
    cases em:Zy s 0 r.2.1 with
    |none=>
     refine⟨_,U,U,_,U,fs,_,_,_,U,f6,srt,skip ?_,fct,rJ,p6⟩;rintro⟨r',_,_,_,lQ,⟨m,vZ⟩,_⟩;rw[er]at lQ;cases lQ;rw[em]at vZ;cases vZ
    |some m=>
     refine⟨_,U,U,_,U,?_⟩;refine ZO ⟨_,U,tt,_,0,_,U,U,SqT.of t6,U,_,U,dO,_,U,JX.k (k:=Sum.inr r.1) O6,_,U,?_⟩;rw[JF,YKC];cases eh:look o r.1 with
     |none=>
      refine⟨fs,_,_,_,U,f6,srt,skip ?_,fct,rJ,p6⟩;rintro⟨r',r1,lX,e1,lQ,_,tM⟩;rw[er]at lQ;cases lQ;rw[<-eg]at e1;cases e1;obtain⟨v,e2⟩:=YGH hs wy fx tM;rw[eh]at e2;cases e2
     |some h=>
      have hfl:fs.length<=i:=by
       have h1:(fs.map (·.1)).length<=(List.range i).length:=by
        have nd:(fs.map (·.1)).Nodup:=srt.imp λh=>YJc h
        exact YGS nd λk hk=>YKG.mpr ((mem k).mp hk).1
       rwa [YI6,List.length_range]at h1
      have hil:i < xs.length:=(YJe.mp hi).1;have len:(fsD fs).length < sizeLine:=by
       unfold fsD;rw[YI6];exact YJQ (show _ < 1000 by omega) (YH (YJB _))
      have put:YAU H6 dF (.int (i:Nat)) (.int (h + m)) (upd H6 dF (.dK (fsD (fs ++ [(i,h + m)])))):=by
       have:=YAU.k (k:=Sum.inl (i:Int)) (v:=.int (h + m)) f6 len;rw[YD5 _ (YIv fs notin)]at this;unfold fsD at this ⊢;rw[YJj];exact this
      refine⟨_,U,_,U,tt,_,0,_,U,U,SqT.of t6,U,dO,.int h,U,YCH O6 eh,_,U,_,_,U,U,_,U,_,U,dF,_,U,put,?_⟩;refine⟨fs ++ [(i,h + m)],_,_,_,U,YD,?_,λk=>?_,λp hp=>?_,rJ.put hdF,p6.upd rfl⟩
      ·rw[YJj,List.pairwise_append];refine⟨srt,by simp,λa ha b hb=>?_⟩;have e1:b=i:=by simpa using hb
       rw[e1];exact((mem a).mp ha).1
      ·rw[YJj,YJg,mem k];have sJ:YEa g s i:=⟨r,r0,Ye,eg.symm,er,⟨m,em⟩,wy.rch _ _ eh⟩;constructor
       ·rintro(⟨a,b⟩ |hk)
        ·exact⟨by omega,b⟩
        ·have e1:k=i:=by simpa using hk
         rw[e1];exact⟨by omega,sJ⟩
       ·rintro⟨a,b⟩
        by_cases e1:k=i
        ·exact .inr (by simp[e1])
        ·exact .inl ⟨by omega,b⟩
      ·rcases YJg.mp hp with hp |hp
       ·exact fct p hp
       ·rw[YJa.mp hp];exact⟨r,m,h,er,em,eh,U⟩
   ·rintro σ H3 ⟨fs,v4,v5,v6,rfl,u6,srt,mem,fct,s3,p3⟩;refine⟨_,U,q dF fs H3 srt (λk=>?_) (λr1 lX e=>?_) (s1.trans s3) p3 sI u6⟩
    ·rw[mem k];constructor
     ·exactλh=>h.2
     ·intro h;refine⟨?_,h⟩;obtain⟨r,_,_,_,er,_⟩:=h;have:=(YJe.mp er).1;omega
    ·rw[<-eg]at e;cases e;exact⟨o,wy,fx,fct⟩
theorem YD6:YS ["grammar","rules"] ["grammar"] (YG YCx):=⟨U,U,U,by decide +kernel,U,by decide +kernel,by decide +kernel⟩
theorem YHn {f:Addr}{fd:FuncData} (F:Fun K "needed" "needed" YCx f fd) (T:Txt K mg C) (bz:Y6 P w K mg (CXo P w) 7 "checked" ["thing"] (YBJ C.NoGrammar)) (cD:Y6 P w K mg CX0 4 "sizes_with" ["rules","sizes"] (YFY)) (bQ:Y6 P w K mg CX0 3 "least_sizes" ["rules","sign_size"] (YFX)):Yv P w K mg base (CXo P w) 8 f fd ["grammar"] (YFZ C.NoGrammar):=by
 obtain⟨mG,lL,gh,gj,gk,gm⟩:=bz.ok;obtain⟨pX,pA,jf,jg,jh,ji⟩:=cD.ok;obtain⟨pB,nG,iH,iI,iJ,iK⟩:=bQ.ok;refine F.okX YD6 (λvs H Q E h=>?_) (λaB A outer s H vs Q E hr h=>?_)
 ·cases h;subst_vars;rfl
 ·obtain⟨x,d,rfl,den,uI,hp,q,qe⟩:=h;refine⟨_,(YE (YO (i:=1) YD6.nd rfl (Or.inl rfl) (YK (gh base) (hr.mono (by decide)) (by rfl) gj gk gm .nil Xn.on (YA (pv 0) YB)))
   (YF (YT (Yx (YCb rfl) (by rfl) T.lu YKM (YA (YK (jf base) (hr.mono (by decide)) (by rfl) jg jh ji .nil Yg (YA (pv 1) (YA (YK (iH base) (hr.mono (by decide)) (by rfl) iI iJ iK .nil Yg (YA (pv 1) (YA YC YB))) YB))) YB))))),?_⟩
  refine⟨_,U,x,d,U,den,uI,hp,λe l xs ds ed cN hl=>?_,λe=>qe e H (YI.refl H) hp⟩;obtain⟨g,rfl,hg⟩:=YGm e;cases ed;have s1:=YI.upd (o:=.lst xs) hl;refine⟨_,U,_,U,l,xs,g,0,U,YD,cN.same s1,hg,YKR _,hp.upd rfl,λd s H' hok q_ hd e=>?_⟩;subst e;have s2:=YI.upd (o:=.dK (szD s)) hd;have rK:=s1.trans s2;refine⟨l,d,xs,g,s,U,s2 _ _ YD,cN.same rK,hg,YD,hok,(hp.upd rfl).upd rfl,λdF fs H2 srt mem _ s3 p3 sI hdF=>⟨dF,_,U,.inl hdF,λlo hlo=>?_⟩⟩;refine q g rfl hg lo s (fs.map (·.1)) _ hok q_ srt mem ((rK.trans s3).trans (YI.upd hlo)) (p3.upd rfl) (rK.free (s3.free hlo)) ?_;rw[YD];unfold fsD;rw[YJz,YJz];rfl
end
inductive Fr (g:Ya):Str->Prop
 |mk {r:Y5}:r∈g->(∀p∈r.2.1,isQ p=false->Fr g p)->Fr g r.1
def Ripe (g:Ya) (r:Y5):Prop:=∀p∈r.2.1,isQ p=false->Fr g p
inductive Rc (g:Ya) (z0:Str):Str->Prop
 |start:Fr g z0->Rc g z0 z0
 |step {r:Y5}{p:Str}:r∈g->Ripe g r->Rc g z0 r.1->p∈r.2.1->isQ p=false->Rc g z0 p
def NeedS (g:Ya) (k:Nat):Prop:=∃r r0 Ye,g=r0 :: Ye/\g[k]?=some r/\Ripe g r/\Rc g r0.1 r.1
structure Xc (g:Ya) (ks:List Nat):Prop where
 up:ks.Pairwise (· < ·)
 all:∀k,k∈ks<->NeedS g k
theorem Xc.one {g:Ya}{a b:List Nat} (ha:Xc g a) (hb:Xc g b):a=b:=YFJ ha.up hb.up λk=>(ha.all k).trans (hb.all k).symm
section
variable {g:Ya}{s:Sz}
theorem YEk (hs:JG g 0 s):∀(n:Nat) {z:Str}{v:Int},look s z=some v->v<=n->Fr g z
 |0,z,v,e,h=>by have:=hs.pos z v e;omega
 |n + 1,z,v,e,h=>by
  obtain⟨r,hr,rfl,m,em,hm⟩:=hs.hd z v e;refine .mk hr λp hp hq=>?_
  obtain⟨w,ew,hw⟩:=(Zo hs.pos em).2 p hp hq;exact YEk hs n ew (by omega)
theorem fr_look (f:Fix g 0 s) {z:Str} (h:Fr g z):∃v,look s z=some v:=by
 induction h with
 |@mk r hr _ ih=>
  obtain⟨v,e,_⟩:=f r hr _ (YDx (s:=s) (ps:=r.2.1) (a:=1) λp hp hq=>by obtain⟨v,e⟩:=ih p hp hq;rw[e];rfl);exact⟨v,e⟩
theorem XT (hs:JG g 0 s) (f:Fix g 0 s) {r:Y5}:Sized s r<->Ripe g r:=by
 constructor
 ·rintro⟨m,em⟩ p hp hq;obtain⟨w,ew,_⟩:=(Zo hs.pos em).2 p hp hq;exact YEk hs w.toNat ew (by omega)
 ·intro h;exact⟨_,YDx (s:=s) (ps:=r.2.1) (a:=1) λp hp hq=>by obtain⟨v,e⟩:=fr_look f (h p hp hq);rw[e];rfl⟩
theorem YIw (hs:JG g 0 s) (f:Fix g 0 s) (k:Nat):YEa g s k<->NeedS g k:=by
 constructor
 ·intro h;have h':=h;obtain⟨r,r0,Ye,e,er,sz,re⟩:=h;have h0:Fr g r0.1:=by
   cases q:look s r0.1 with
   |none=>exact(YHi f e q k h').elim
   |some v=>exact YEk hs v.toNat q (by omega)
  refine⟨r,r0,Ye,e,er,(XT hs f).mp sz,?_⟩;clear er sz h';revert re;generalize r.1=z;intro re
  induction re with
  |start=>exact .start h0
  |step hr hsz _ hp hq ih=>exact .step hr ((XT hs f).mp hsz) ih hp hq
 ·rintro⟨r,r0,Ye,e,er,rp,rc⟩;refine⟨r,r0,Ye,e,er,(XT hs f).mpr rp,?_⟩;clear er rp;revert rc;generalize r.1=z;intro rc
  induction rc with
  |start _=>exact .start
  |step hr hsz _ hp hq ih=>exact .step hr ((XT hs f).mpr hsz) ih hp hq
theorem YIx (hs:JG g 0 s) (f:Fix g 0 s) {ks:List Nat} (up:ks.Pairwise (· < ·)) (all:∀k,k∈ks<->YEa g s k):Xc g ks:=⟨up,λk=>(all k).trans (YIw hs f k)⟩
theorem Xc.lt {ks:List Nat} (h:Xc g ks):∀k∈ks,k < g.length:=λk hk=>by
 obtain⟨r,_,_,_,er,_⟩:=(h.all k).mp hk;exact(YJe.mp er).1
theorem YFa:∀{ks:List Nat}{a n:Nat},ks.Pairwise (· < ·)->(∀k∈ks,a<=k/\k < n)->ks.length<=n - a
 |[],_,_,_,_=>YJh _
 |k :: ks,a,n,h,b=>by
  have hk:=b k (YJI ..);have:=YFa (ks:=ks) (a:=k + 1) (n:=n) (List.pairwise_cons.mp h).2 λj hj=>⟨(List.pairwise_cons.mp h).1 j hj,(b j (YJD _ hj)).2⟩
  rw[YJY];omega
theorem Xc.len {ks:List Nat} (h:Xc g ks):ks.length<=g.length:=by
 have:=YFa (a:=0) (n:=g.length) h.up λk hk=>⟨YJh _,h.lt k hk⟩
 omega
end
abbrev Jj:Stmt:=top 102
abbrev JK:Stmt:=YB8 (top 103) 0
abbrev JL:Stmt:=YB8 (top 103) 2
abbrev Z7:Stmt:=YB8 (top 103) 3
theorem YFb:(["rule"]:List Str).Nodup:=by decide +kernel
theorem YDS:(["number"]:List Str).Nodup:=by decide +kernel
inductive YBn (vs:List V) (H:Hp) (Q:VK):Prop where
 |mk (x:V) (g:Ya) (aQ:vs=[x]) (aR:Den H x (Jr g)) (bu:Yz g=true) (cM:YJ H) (dR:∀H',YI H H'->YJ H'->Q (.str (Txt.join "\n" (g.map Yk))) H'):YBn vs H Q
def YC0:Sp:=λvs H Q E_=>YBn vs H Q
inductive YBo (vs:List V) (H:Hp) (Q:VK):Prop where
 |mk (l:Addr) (ks:List Nat) (aQ:vs=[.ref l]) (aR:H l=some (.lst (ks.map λk:Nat=>V.int (k:Int)))) (bu:ks.length<=60) (cM:(∀k∈ks,k < 60)) (dR:YJ H) (lO:∀H',YI H H'->YJ H'->Q (.str (Txt.join " " (ks.map λk:Nat=>((toString (k:Int):String):Str)))) H'):YBo vs H Q
def YC1:Sp:=λvs H Q E_=>YBo vs H Q
inductive YFc (C:Addr) (vs:List V) (H:Hp) (Q:VK):Prop where
 |mk (x dx:Addr) (aQ:vs=[.ref x]) (aR:H x=some (.ins C dx [])) (bu:YJ H) (cM:∀l,H l=none->Q .non (upd (upd H l (.lst [])) x (.ins C dx [("rules",.ref l)]))):YFc C vs H Q
def YG1 (C:Addr):Sp:=λvs H Q E_=>YFc C vs H Q
structure XC (C:Addr) (H:Hp) (x dx l:Addr) (g:Ya):Prop where
 x:H x=some (.ins C dx [("rules",.ref l)])
 l:∃xs,H l=some (.lst xs)/\YX H xs (g.map Yp)
 g:Yz g=true
def But (l:Addr) (H H':Hp):Prop:=∀a o,a≠l->H a=some o->H' a=some o
inductive YG2 (C:Addr) (vs:List V) (H:Hp) (Q:VK):Prop where
 |mk (x dx l:Addr) (g:Ya) (r:Y5) (z:Str) (aQ:vs=[.ref x,.str z]) (aR:XC C H x dx l g) (bu:Js z=some r) (cM:z.length<=1000) (dR:Yo r=true) (lO:g.length < 60) (sr:YJ H) (uW:∀H',But l H H'->XC C H' x dx l (g ++ [r])->YJ H'->Q (.str ((toString (g.length:Int):String):Str)) H'):YG2 C vs H Q
def YIy (C:Addr):Sp:=λvs H Q E_=>YG2 C vs H Q
inductive YFd (C:Addr) (vs:List V) (H:Hp) (Q:VK):Prop where
 |mk (x dx l:Addr) (g:Ya) (n:Nat) (aQ:vs=[.ref x,.int (n:Int)]) (aR:XC C H x dx l g) (bu:n < g.length) (cM:YJ H) (dR:∀H',But l H H'->XC C H' x dx l (g.eraseIdx n)->YJ H'->Q (.str "ok") H'):YFd C vs H Q
def YG3 (C:Addr):Sp:=λvs H Q E_=>YFd C vs H Q
theorem ZP {g:Ya} (h:Yz g=true):g.all Yo=true:=by
 unfold Yz at h;rw[YJA]at h;exact h.2
theorem YAu {g:Ya} (h:Yz g=true):(Jr g).short=true:=by
 unfold Jr D.short;refine JU λd hd=>?_
 obtain⟨r,hr,rfl⟩:=YJM.mp hd;exact YF8 (YJP.mp (ZP h) r hr)
theorem X0 {H:Hp}{b:Addr}{ys:List V}{o:HO} (hb:H b=some (.lst ys)):∀{g:Ya}{xs:List V},YX H xs (g.map Yp)->YX (upd H b o) xs (g.map Yp)
 |[],[],_=>.nil
 |[],_ :: _,h=>by unfold YX at h;exact h.elim
 |_ :: _,[],h=>by unfold YX at h;exact h.elim
 |r :: g,x :: xs,h=>by
  rw[YJO]at h ⊢;unfold YX at h;obtain⟨t,p,rfl,ht,hp⟩:=XA h.1;have nt:t≠b:=λz=>by rw[z,hb]at ht;cases ht
  have np:p≠b:=λz=>by rw[z,hb]at hp;cases hp
  exact .cons (.tup (by rw[YN nt];exact ht) (.cons (.str _) (.cons (.tup (by rw[YN np];exact hp) (YX.strs _)) (.cons (.int _) .nil)))) (X0 hb h.2)
theorem YAc {H:Hp}:∀{xs:List V}{ds:List D},YX H xs ds->∀n,YX H (xs.eraseIdx n) (ds.eraseIdx n)
 |[],[],_,_=>.nil
 |[],_ :: _,h,_=>by unfold YX at h;exact h.elim
 |_ :: _,[],h,_=>by unfold YX at h;exact h.elim
 |x :: xs,d :: ds,h,n=>by
  unfold YX at h;cases n with
  |zero=>exact h.2
  |succ n=>exact .cons h.1 (YAc h.2 n)
theorem YBU {α β:Type} (f:α->β):∀(l:List α) (n:Nat),(l.map f).eraseIdx n=(l.eraseIdx n).map f
 |[],n=>rfl
 |_ :: _,0=>rfl
 |a :: l,n + 1=>by
  show f a :: (l.map f).eraseIdx n=f a :: (l.eraseIdx n).map f;rw[YBU f l n]
section
variable {P:Program}{w:World}{K:W.Frag}{mg:Str->Option Value}{base:Heap}{C:Adr}
theorem YBw:YS ["grammar"] ["grammar"] (YG Jg):=⟨U,U,U,by decide +kernel,U,by decide +kernel,by decide +kernel⟩
theorem YBx {f:Addr}{fd:FuncData} (F:Fun K "show_grammar" "show_grammar" Jg f fd) (T:Txt K mg C) (dg:Y6 P w K mg CX0 2 "show_rule" ["rule"] (YCj)) (bz:Y6 P w K mg (CXo P w) 7 "checked" ["thing"] (YBJ C.NoGrammar)):Yv P w K mg base CX0 8 f fd ["grammar"] (YC0):=by
 obtain⟨qI,pY,j8,j9,j_,kh⟩:=dg.ok;obtain⟨mG,lL,gh,gj,gk,gm⟩:=bz.ok;refine F.ok YBw (λvs H Q E h=>?_) (λaB A outer s H vs Q E hr h=>?_)
 ·cases h;subst_vars;rfl
 ·obtain⟨x,g,rfl,den,hg,hp,q⟩:=h;refine qex ?_;refine⟨_,(Zd ⟨(YT (ZL K rfl YJd YJy YJx (J7 K rfl) YW (YA (ZJ (N:=["rule"]) (ρ:=[none]) (cl:=[]) rfl (Yb.plain rfl (by decide +kernel) (by decide +kernel) rfl (by simp)) (ZK K rfl (YK (gh base) (hr.mono (by decide)) (by rfl) gj gk gm .nil passX (YA (pv 0) YB))) (λ_ _ _ _ _=>(Yf (i:=0) YFb rfl (Or.inl rfl) (.inr rfl))) (λ_ _ _ _ _=>ZI) (λ_ _ _ _ _=>(YK (j8 base) (hr.mono (by decide)) (by rfl) j9 j_ kh .nil Yg (YA (pv 0) YB)))) YB)))⟩),?_⟩;refine⟨U,_,U,x,Jr g,U,den,YAu hg,hp,λ_ l xs ds eds cN hl=>?_,λe=>by rw[Jw,hg]at e;cases e⟩;have u9:ds=g.map Yp:=(D.lst.inj eds).symm;subst u9;have s1:=YI.upd (o:=.lst xs) hl;have p1:YJ (upd H l (.lst xs)):=hp.upd rfl;have l1:upd H l (.lst xs) l=some (.lst xs):=YD;revert s1 p1 l1;generalize upd H l (.lst xs)=H1;intro s1 p1 l1;have lr:xs.length=g.length:=by rw[cN.len,YI6]
  have m8:=JR hg;refine⟨l,U,⟨_,SqL.of l1⟩,λlc nZ=>?_⟩;refine Yw (n:=xs.length) 0 (λk y _=>∃z,(g.map Yk)[k]?=some z/\y=.str z) (ZF (SqL.of (K:=K) l1)) (λ_ _ _ _ _ h=>h) p1 nZ YJW (YH (by omega)) (λτ'=>0 < τ'.length) YJW (λτ' v h=>by rw[YJl];exact h) ?_ ?_
  ·intro τ' k y H' R _ hτ hit hk hs hp' eY hR;obtain⟨d,ed,dd⟩:=cN.get hit;rw[YJG]at ed;cases er:g[k]? with
   |none=>rw[er]at ed;cases ed
   |some r=>
    rw[er]at ed;cases ed;exact⟨_,hτ,y,r,U,(dd.same s1).same hs,YJP.mp (ZP hg) r (YJF er),hp',λH6 s6 p6=>hR _ _ s6 p6 ⟨_,by rw[YJG,er];rfl,U⟩⟩
  ·intro ys H' hy hP hs hp' hl';have e2:ys=(g.map Yk).map V.str:=YAE (by rw[hy,YI6,lr]) hP;subst e2;refine⟨_,lc,g.map Yk,U,U,SqL.of hl',?_,q _ (s1.trans hs) hp'⟩;have h1:=Jd (ws:=g.map Yk) (n:=700) (m:=60) (λw hw=>by
    obtain⟨r,hr,rfl⟩:=YJM.mp hw;exact YAr (YJP.mp (ZP hg) r hr)) (by rw[YI6];exact m8)
   rw[show(("\n":Str)).length=1 from by decide +kernel,YKX,YI6];omega
theorem YBy:YS ["numbers"] ["numbers"] (YG Jj):=⟨U,U,U,by decide +kernel,U,by decide +kernel,by decide +kernel⟩
theorem YBz {f:Addr}{fd:FuncData} (F:Fun K "show_numbers" "show_numbers" Jj f fd) (T:Txt K mg C):Yv P w K mg base CX0 1 f fd ["numbers"] (YC1):=by
 refine F.ok YBy (λvs H Q E h=>?_) (λaB A outer s H vs Q E hr h=>?_)
 ·cases h;subst_vars;rfl
 ·obtain⟨l,ks,rfl,hl,u_,hk,hp,q⟩:=h;refine qex ?_;refine⟨_,(Zd ⟨(YT (ZL K rfl YJd YJy YJx (J7 K rfl) YW (YA (ZJ (N:=["number"]) (ρ:=[none]) (cl:=[]) rfl (Yb.plain rfl (by decide +kernel) (by decide +kernel) rfl (by simp)) (ZK K rfl (pv 0)) (λ_ _ _ _ _=>(Yf (i:=0) YDS rfl (Or.inl rfl) (.inr rfl))) (λ_ _ _ _ _=>ZI) (λ_ _ _ _ _=>(Yx ZN (by rfl) T.cO YJZ (YA (pv 0) YB)))) YB)))⟩),?_⟩;refine⟨U,_,U,l,U,⟨_,SqL.of hl⟩,λlc nZ=>?_⟩;refine Yw (n:=(ks.map λk:Nat=>V.int (k:Int)).length) 0 (λj y _=>∃z,(ks.map λk:Nat=>((toString (k:Int):String):Str))[j]?=some z/\y=.str z) (ZF (SqL.of (K:=K) hl)) (λ_ _ _ _ _ h=>h) hp nZ YJW (YH (by rw[YI6];omega)) (λτ'=>0 < τ'.length) YJW (λτ' v h=>by rw[YJl];exact h) ?_ ?_
  ·intro τ' j y H' R _ hτ hit hj hs hp' eY hR;rw[YJG]at hit;cases ek:ks[j]? with
   |none=>rw[ek]at hit;cases hit
   |some k=>
    rw[ek]at hit;cases hit;have:=hk k (YJF ek);exact⟨_,hτ,(k:Int),U,Z6 (by omega) (YJn (show(k:Int)<=60 by omega) (by decide)),hR _ _ (YI.refl _) hp' ⟨_,by rw[YJG,ek];rfl,U⟩⟩
  ·intro ys H' hy hP hs hp' hl';have e2:ys=(ks.map λk:Nat=>((toString (k:Int):String):Str)).map V.str:=YAE (by rw[hy,YI6,YI6]) hP;subst e2;refine⟨_,lc,_,U,U,SqL.of hl',?_,q _ hs hp'⟩;have h1:=Jd (ws:=ks.map λk:Nat=>((toString (k:Int):String):Str)) (n:=61) (m:=60) (λw hw=>by
    obtain⟨k,hk',rfl⟩:=YJM.mp hw;have:=hk k hk';exact X9 (by omega) (YJn (show(k:Int)<=60 by omega) (by decide))) (by rw[YI6];exact u_)
   rw[show((" ":Str)).length=1 from by decide +kernel,YKX,YI6];omega
theorem YBV:YS ["self"] ["self"] (YG JK):=⟨U,U,U,by decide +kernel,U,by decide +kernel,by decide +kernel⟩
theorem YBW {f:Addr}{fd:FuncData} (F:Fun K "__init__" "Desk.__init__" JK f fd) (T:Txt K mg C):Yv P w K mg base CX0 1 f fd ["self"] (YG1 C.Desk):=by
 refine F.ok YBV (λvs H Q E h=>?_) (λaB A outer s H vs Q E hr h=>?_)
 ·cases h;subst_vars;rfl
 ·obtain⟨x,dx,rfl,hx,hp,q⟩:=h;refine qex ?_;refine⟨_,(Zd ⟨(ps_fldK K rfl (pv 0) (JW YB) rfl)⟩),?_⟩;refine⟨YJh _,λl hl=>⟨_,U,x,C.Desk,dx,[],U,by rw[YN (λz=>by rw[<-z,hx]at hl;cases hl)];exact hx,T.aV,T.aq,(show 0 < 1000 by decide),?_⟩⟩;exact q l hl
theorem XD:YS ["self","written","rule"] ["self","written"] (YG JL):=⟨U,U,U,by decide +kernel,U,by decide +kernel,by decide +kernel⟩
theorem YBX {f:Addr}{fd:FuncData} (F:Fun K "add_rule" "Desk.add_rule" JL f fd) (T:Txt K mg C) (dh:Y6 P w K mg (CXo P w) 6 "read_rule" ["text"] (YCk C.NoRule)):Yv P w K mg base CX0 7 f fd ["self","written"] (YIy C.Desk):=by
 obtain⟨qJ,pZ,kj,km,kE,kI⟩:=dh.ok;obtain⟨iZ,aN⟩:=T.aN;refine F.ok XD (λvs H Q E h=>?_) (λaB A outer s H vs Q E hr h=>?_)
 ·cases h;subst_vars;rfl
 ·obtain⟨x,dx,l,g,r,z,rfl,dk,er,hz,okr,u_,hp,q⟩:=h;refine qex ?_;refine⟨_,(YM ⟨(YO (i:=2) XD.nd rfl (Or.inl rfl) (YK (kj base) (hr.mono (by decide)) (by rfl) km kE kI .nil passX (YA (pv 1) YB)))⟩
   (YM ⟨(Yt (Yl op_ge (YQ (Yc K rfl) (by rfl) T.aH YJE (YA (XI K rfl (pv 0) rfl) YB)) (JA (v:=.int 60) (by rfl) aN ⟨_,U⟩) (Yh _)) Zq YY)⟩
   (YM ⟨(JO (ZL K rfl YJi YJ4 YJ3 Z4 (XI K rfl (pv 0) rfl) (YA (pv 2) YB)))⟩
   (Zd ⟨(YT (Yx ZN (by rfl) T.cO YJZ (YA (YL YEI (YQ (Yc K rfl) (by rfl) T.aH YJE (YA (XI K rfl (pv 0) rfl) YB)) YC) YB)))⟩)))),?_⟩
  obtain⟨hx,⟨xs,hl,t_⟩,hg⟩:=dk;have lr:xs.length=g.length:=by rw[t_.len,YI6]
  refine⟨_,U,.str z,.str z,U,.str _,J8 hz,hp,(λr' e p H1 s1 p1 vd=>?_),λe=>?_⟩
  rotate_left
  ·have e:Js z=none:=e;rw[er]at e;cases e
  have e:Js z=some r':=e;rw[er]at e;cases e;dsimp only[Yu];refine⟨_,U,x,C.Desk,dx,_,_,U,s1 _ _ hx,T.aV,T.aq,U,l,xs,U,.inl (SqL.of (s1 _ _ hl)),_,_,U,U,_,U,?_⟩;rw[YI8 (by omega)];refine ZB ?_;dsimp only[YAH];have vf:Den H1 p (Yp r):=vd.same (YF6 H H1);refine⟨_,U,x,C.Desk,dx,_,_,U,s1 _ _ hx,T.aV,T.aq,U,.inl ⟨U,_,SqL.of (s1 _ _ hl)⟩,_,U,l,xs,p,U,U,s1 _ _ hl,(by have:=YH (show 100<=1000 by decide);omega),?_⟩;have nxl:x≠l:=λz=>by rw[z,hl]at hx;cases hx
  have hx2:upd H1 l (.lst (xs ++ [p])) x=some (.ins C.Desk dx [("rules",.ref l)]):=by rw[YN nxl];exact s1 _ _ hx
  refine⟨_,U,x,C.Desk,dx,_,_,U,hx2,T.aV,T.aq,U,l,xs ++ [p],U,.inl (SqL.of YD),_,_,U,U,_,U,Z6 (by rw[YJL];show 0<=((xs.length + 1:Nat):Int) - 1;omega) (YJn (show(((xs ++ [p]).length:Nat):Int) - 1<=60 by rw[YJL];show((xs.length + 1:Nat):Int) - 1<=60;omega) (by decide)),?_⟩;have ee:(((xs ++ [p]).length:Nat):Int) - 1=(g.length:Int):=by rw[YJL];show((xs.length + 1:Nat):Int) - 1=_;omega
  rw[ee];refine q _ (λa o ne e=>by rw[YN ne];exact s1 _ _ e) ⟨hx2,⟨xs ++ [p],YD,?_⟩,?_⟩ (p1.upd rfl)
  ·refine X0 (s1 _ _ hl) ?_;rw[YJj];exact(t_.same s1).append (.cons vf .nil)
  ·unfold Yz at hg ⊢;rw[YJA,YJb]at hg ⊢;exact⟨by rw[YJL];show g.length + 1<=60;omega,by rw[List.all_append,hg.2];show(true && (Yo r && true))=true;rw[okr];rfl⟩
theorem YAv:YS ["self","number"] ["self","number"] (YG Z7):=⟨U,U,U,by decide +kernel,U,by decide +kernel,by decide +kernel⟩
theorem YAw {f:Addr}{fd:FuncData} (F:Fun K "drop_rule" "Desk.drop_rule" Z7 f fd) (T:Txt K mg C):Yv P w K mg base CX0 1 f fd ["self","number"] (YG3 C.Desk):=by
 refine F.ok YAv (λvs H Q E h=>?_) (λaB A outer s H vs Q E hr h=>?_)
 ·cases h;subst_vars;rfl
 ·obtain⟨x,dx,l,g,n,rfl,dk,hn,hp,q⟩:=h;refine qex ?_;refine⟨_,(YM ⟨(Yt (Yl op_ge (pv 1) (YQ (Yc K rfl) (by rfl) T.aH YJE (YA (XI K rfl (pv 0) rfl) YB)) (Yh _)) Zq YY)⟩
   (YM ⟨(JO (ZL K rfl YJi PySem.F.slot_list_pop PySem.F.type_list_pop YEz (XI K rfl (pv 0) rfl) (YA (pv 1) YB)))⟩
   (Zd ⟨(YT YW)⟩))),?_⟩
  obtain⟨hx,⟨xs,hl,t_⟩,hg⟩:=dk;have lr:xs.length=g.length:=by rw[t_.len,YI6]
  have m8:=JR hg;refine⟨_,U,_,U,x,C.Desk,dx,_,_,U,hx,T.aV,T.aq,U,l,xs,U,.inl (SqL.of hl),_,_,U,U,_,U,?_⟩;rw[YI8 (by omega)];refine ZB ?_;dsimp only[YAH];have hn':n < xs.length:=by omega
  refine⟨_,U,x,C.Desk,dx,_,_,U,hx,T.aV,T.aq,U,.inl ⟨U,_,SqL.of hl⟩,_,U,l,xs,(n:Int),n,_,U,U,hl,by omega,by omega,?_,YJC hn',?_⟩
  ·exact seqIndex_of (Int.natCast_nonneg n) (by omega)
  have nxl:x≠l:=λz=>by rw[z,hl]at hx;cases hx
  refine q _ (λa o ne e=>by rw[YN ne];exact e) ⟨by rw[YN nxl];exact hx,⟨xs.eraseIdx n,YD,?_⟩,?_⟩ (hp.upd rfl)
  ·refine X0 hl ?_;rw[<-YBU];exact YAc t_ n
  ·unfold Yz at hg ⊢;rw[YJA,YJb]at hg ⊢;refine⟨YJR (List.length_eraseIdx_le ..) hg.1,YJP.mpr λr hr=>YJP.mp hg.2 r (List.mem_of_mem_eraseIdx hr)⟩
end
abbrev XU:Stmt:=top 101
theorem YAN:(["number"]:List Str).Nodup:=by decide +kernel
def YBY (K:W.Frag) (a:Addr) (xs:List V):Prop:=∃(o:Obj) (its:Array Value) (n:Nat),K.lookup a=some o/\o.cls=.type "tuple"/\o.data=.seq its n/\its.size<=sizeLine/\Yi xs its.toList
theorem YBY.sq {K:W.Frag}{a:Addr}{xs:List V} (h:YBY K a xs) (H:Hp):SqT K H a xs:=.inr h
def YG4 (r d s n c o b m:Addr):List (Key×V):=[(.inr "rule",.ref r),(.inr "drop",.ref d),(.inr "show",.ref s),(.inr "needed",.ref n),(.inr "count",.ref c),(.inr "row",.ref o),(.inr "best",.ref b),(.inr "mend",.ref m)]
structure YIz (K:W.Frag) (r d s n:Addr):Prop where
 r:YBY K r [.int 0,.bl true]
 d:YBY K d [.int 1,.bl false]
 s:YBY K s [.int 0,.bl false]
 n:YBY K n [.int 0,.bl false]
def YAx (P:Program) (w:World) (K:W.Frag) (a:Addr):Prop:=∃r d s n c o b m:Addr,OwnD P w K a (YG4 r d s n c o b m)/\YIz K r d s n
theorem YBY.of {K:W.Frag}{a:Addr}{i:Int}{t:Tok}{b:Bool}{n:Nat} (h:K.lookup a=some ⟨.type "tuple",none,.seq #[.int i t,.bool b] n,#[]⟩):YBY K a [.int i,.bl b]:=
 ⟨_,_,_,h,U,U,YH (show 2<=1000 by decide),.cons ⟨_,U⟩ (.cons rfl .nil)⟩
theorem YAx.of {P:Program}{w:World}{K:W.Frag}{a r d s n c o b m:Addr}{t0 t1 t2 t3 t4 t5 t6 t7 u0 u1 u2 u3:Tok}{ep n0 n1 n2 n3:Nat}
  (h:K.lookup a=some ⟨.type "dict",none,.dict #[⟨PyData.keyHash w.params "rule",.str "rule" t0,.ref r⟩,⟨PyData.keyHash w.params "drop",.str "drop" t1,.ref d⟩,⟨PyData.keyHash w.params "show",.str "show" t2,.ref s⟩,⟨PyData.keyHash w.params "needed",.str "needed" t3,.ref n⟩,⟨PyData.keyHash w.params "count",.str "count" t4,.ref c⟩,⟨PyData.keyHash w.params "row",.str "row" t5,.ref o⟩,⟨PyData.keyHash w.params "best",.str "best" t6,.ref b⟩,⟨PyData.keyHash w.params "mend",.str "mend" t7,.ref m⟩] ep,#[]⟩)
  (lo:(a == sysModules)=false) (hr:K.lookup r=some ⟨.type "tuple",none,.seq #[.int 0 u0,.bool true] n0,#[]⟩) (hd:K.lookup d=some ⟨.type "tuple",none,.seq #[.int 1 u1,.bool false] n1,#[]⟩) (hs:K.lookup s=some ⟨.type "tuple",none,.seq #[.int 0 u2,.bool false] n2,#[]⟩) (hn:K.lookup n=some ⟨.type "tuple",none,.seq #[.int 0 u3,.bool false] n3,#[]⟩):
  YAx P w K a:=
 ⟨r,d,s,n,c,o,b,m,OwnD.of [("rule",t0,r),("drop",t1,d),("show",t2,s),("needed",t3,n),("count",t4,c),("row",t5,o),("best",t6,b),("mend",t7,m)] h lo (show(["rule","drop","show","needed","count","row","best","mend"]:List Str).Nodup by decide +kernel),⟨YBY.of hr,YBY.of hd,YBY.of hs,YBY.of hn⟩⟩
abbrev ZS (n:Nat):Str:=((toString (n:Int):String):Str)
inductive Wd:Str->Str->List Nat->Str->Prop
 |rule (t:Str):Wd ("rule " ++ t) "rule" [] t
 |drop (n:Nat) (h:n < 60):Wd ("drop " ++ ZS n) "drop" [n] (ZS n)
 |show:Wd "show" "show" [] "show"
 |need:Wd "needed" "needed" [] "needed"
theorem Jt:(" ":Str)=⟨#[32]⟩:=by decide +kernel
structure WdF (K:W.Frag) (kvs:List (Key×V)) (z wd:Str) (ns:List Nat) (Ye:Str) (a:Nat) (b:Bool) (ws:List Str) (p:Addr):Prop where
 part:(Txt.partition z " ").1=wd
 val:Jn kvs (.inr wd)=some (.ref p)
 tup:YBY K p [.int (a:Int),.bl b]
 many:b=true->Txt.splitMax z " " ((a:Int) + 1)=ws
 one:b=false->Txt.split z " "=ws
 len:ws.length=a + 1 + (if b then 1 else 0)
 figs:(ws.drop 1).take a=ns.map ZS
 last:atI ws (-1)=some Ye
 a1:a<=1
 ns:∀n∈ns,n < 60
theorem YEl (x y:Str):(x ++ y).cps.toList=x.cps.toList ++ y.cps.toList:=by
 show(x.cps ++ y.cps).toList=_;rw[Array.toList_append]
theorem Wd.facts {K:W.Frag}{z wd Ye:Str}{ns:List Nat}{r d s n c o b m:Addr} (h:Wd z wd ns Ye) (T:YIz K r d s n):∃a b' ws p,WdF K (YG4 r d s n c o b m) z wd ns Ye a b' ws p:=by
 cases h with
 |rule t=>
  have e:("rule " ++ Ye:Str).cps.toList=[114,117,108,101] ++ 32 :: Ye.cps.toList:=by rw[YEl,show("rule ":Str).cps.toList=[114,117,108,101,32] by decide +kernel];rfl
  have hu:¬32∈([114,117,108,101]:List Nat):=by decide
  have er:(⟨#[114,117,108,101]⟩:Str)="rule":=by decide +kernel
  have et:(⟨Ye.cps.toList.toArray⟩:Str)=Ye:=YAC (by simp);refine⟨0,true,["rule",Ye],r,?_,by kernel_rfl,T.r,λ_=>?_,nofun,U,U,U,by omega,λ_ h=>nomatch h⟩
  ·rw[Jt,YD1 e hu];exact er
  ·rw[Jt];show Txt.splitMax _ _ 1=_;rw[YCt (by decide) e hu,et];exact YJ2 (λx=>[x,Ye]) er
 |drop k h=>
  have e:("drop " ++ ZS k:Str).cps.toList=[100,114,111,112] ++ 32 :: (ZS k).cps.toList:=by rw[YEl,show("drop ":Str).cps.toList=[100,114,111,112,32] by decide +kernel];rfl
  have hu:¬32∈([100,114,111,112]:List Nat):=by decide
  have er:(⟨#[100,114,111,112]⟩:Str)="drop":=by decide +kernel
  have et:(⟨(ZS k).cps.toList.toArray⟩:Str)=ZS k:=YAC (by simp);refine⟨1,false,["drop",ZS k],d,?_,by kernel_rfl,T.d,nofun,λ_=>?_,U,U,U,by omega,λ_ h'=>?_⟩
  ·rw[Jt,YD1 e hu];exact er
  ·rw[Jt,YHl (by decide) e hu (YFG (by omega) (YJn (show(k:Int)<=60 by omega) (by decide))),et];exact YJ2 (λx=>[x,ZS k]) er
  ·rw[YJa.mp h'];exact h
 |«show»=>
  have hu:¬32∈("show":Str).cps.toList:=by decide +kernel
  refine⟨0,false,["show"],s,?_,by kernel_rfl,T.s,nofun,λ_=>?_,U,U,U,by omega,λ_ h'=>nomatch h'⟩
  ·rw[Jt,YFL hu]
  ·rw[Jt,YCv (by decide) hu]
 |need=>
  have hu:¬32∈("needed":Str).cps.toList:=by decide +kernel
  refine⟨0,false,["needed"],n,?_,by kernel_rfl,T.n,nofun,λ_=>?_,U,U,U,by omega,λ_ h'=>nomatch h'⟩
  ·rw[Jt,YFL hu]
  ·rw[Jt,YCv (by decide) hu]
theorem YC2:∀n:Nat,(List.replicate n true).all id=true
 |0=>rfl
 |n + 1=>by rw[List.replicate_succ];exact YC2 n
theorem trues83 {ys:List V}{n:Nat} (hl:ys.length=n) (h:∀(j:Nat) (y:V),ys[j]?=some y->y=.bl true):ys=(List.replicate n true).map V.bl:=by
 subst hl;refine List.ext_getElem (by simp) λj h1 h2=>?_
 rw[h j _ (YJC h1)];simp
theorem nums83 {ys:List V}{ns:List Nat} (hl:ys.length=ns.length) (h:∀(j:Nat) (y:V),ys[j]?=some y->∃k:Nat,ns[j]?=some k/\y=.int (k:Int)):ys=ns.map λk:Nat=>V.int (k:Int):=by
 refine List.ext_getElem (by rw[YI6,hl]) λj h1 h2=>?_
 obtain⟨k,ek,e⟩:=h j _ (YJC h1);rw[List.getElem_map,e];rw[YJC (by omega)]at ek;rw[YJf ek]
theorem last83 {ws:List Str}{r:Str} (h:atI ws (-1)=some r):atI (ws.map V.str) (-1)=some (V.str r):=by
 unfold atI at h ⊢;rw[YI6];cases e:ixN ws.length (-1) with
 |none=>rw[e]at h;cases h
 |some j=>
  rw[e]at h;have h:ws[j]?=some r:=h;show(ws.map V.str)[j]?=_;rw[YJG,h];rfl
inductive YAy (vs:List V) (H:Hp) (Q:VK):Prop where
 |mk (z wd Ye:Str) (ns:List Nat) (aQ:vs=[.str z]) (aR:Wd z wd ns Ye) (bu:z.length<=900) (cM:YJ H) (dR:∀(H':Hp) (t l:Addr),YI H H'->YJ H'->H' t=some (.tup [.str wd,.ref l,.str Ye])->H' l=some (.lst (ns.map λk:Nat=>V.int (k:Int)))->Q (.ref t) H'):YAy vs H Q
def YBp:Sp:=λvs H Q E_=>YAy vs H Q
theorem Zp {t u:TS}{D:YAP}{σ:St}{H:Hp} (M:St->Hp->Prop) (Ye:∀σ' H',M σ' H'->u D σ' H') (h:(∀σ' H',M σ' H'->u D σ' H')->t { D with nx:=u D } σ H):tSeq t u D σ H:=h Ye
section
variable {P:Program}{w:World}{K:W.Frag}{mg:Str->Option Value}{base:Heap}{C:Adr}
theorem Zi:YS ["row","word","form","words","figures"] ["row"] (YG XU):=⟨U,U,U,by decide +kernel,U,by decide +kernel,by decide +kernel⟩
theorem YDT {f:Addr}{fd:FuncData} (F:Fun K "read_words" "read_words" XU f fd) (T:Txt K mg C) (O_FORMS:YAx P w K C.FORMS) (aO:Y6 P w K mg CX0 1 "is_figures" ["thing"] (YBM)):Yv P w K mg base CX0 2 f fd ["row"] (YBp):=by
 obtain⟨je,iG,cz,cA,cB,cC⟩:=aO.ok;refine F.ok Zi (λvs H Q E h=>?_) (λaB A outer s H vs Q E hr h=>?_)
 ·cases h;subst_vars;rfl
 ·obtain⟨z,wd,Ye,ns,rfl,hw,hz,hp,q⟩:=h;obtain⟨ar,ad,as,an,ac,ao,ab,am,O_FORMS,hT⟩:=O_FORMS;obtain⟨a,b,ws,p,W⟩:=hw.facts (c:=ac) (o:=ao) (b:=ab) (m:=am) hT;refine qex ?_;refine⟨_,(YM ⟨(Yt (Zf (ZC (YQ (ZT K rfl) (by rfl) T.aj YJV (YA (pv 0) (YA (JB (v:=.ty "str") (by rfl) T.cO YJZ rfl) YB))))) Zq YY)⟩
   (YM ⟨(YO (i:=1) Zi.nd rfl (Or.inl rfl) (YR (YZ K rfl) (ZL K rfl YJd PySem.F.slot_str_partition PySem.F.type_str_partition YBO (pv 0) (YA YW YB)) YC (λ_ _=>rfl)))⟩
   (YM ⟨(Yt (Xe (YHj O_FORMS (pv 1) (JA (v:=.ref C.FORMS) (by rfl) T.lU rfl))) Zq YY)⟩
   (YM ⟨(YO (i:=2) Zi.nd rfl (Or.inl rfl) (pe_oget O_FORMS (JA (v:=.ref C.FORMS) (by rfl) T.lU rfl) (pv 1) (λ_ _=>rfl)))⟩
   (YM ⟨(YO (i:=3) Zi.nd rfl (Or.inl rfl) (Xf (ZC (YR (YZ K rfl) (pv 2) YC (λ_ _=>rfl))) (ZL K rfl YJd PySem.F.slot_str_split PySem.F.type_str_split YDK (pv 0) (YA YW (YA (YL ZD (YR (YZ K rfl) (pv 2) YC (λ_ _=>rfl)) YC) YB))) (ZL K rfl YJd PySem.F.slot_str_split PySem.F.type_str_split YAm (pv 0) (YA YW YB))))⟩
   (YM ⟨(Yt (Yl YDa (YQ (Yc K rfl) (by rfl) T.aH YJE (YA (pv 3) YB)) (YL ZD (YL ZD (YR (YZ K rfl) (pv 2) YC (λ_ _=>rfl)) YC) (Xf (ZC (YR (YZ K rfl) (pv 2) YC (λ_ _=>rfl))) YC YC)) (Yh _)) Zq YY)⟩
   (YM ⟨(YO (i:=4) Zi.nd rfl (Or.inl rfl) (Xj (YCX K rfl) (pv 3) (X5 YC) (X5 (YL ZD (YR (YZ K rfl) (pv 2) YC (λ_ _=>rfl)) YC))))⟩
   (YM ⟨(Yt (Zf (ZC (X7 (YQ (JS K rfl rfl) (by rfl) T.iW YJs (YA (ZJ (N:=["number"]) (ρ:=[none]) (cl:=[]) rfl (Yb.plain rfl (by decide +kernel) (by decide +kernel) rfl (by simp)) (ZK K rfl (pv 4)) (λ_ _ _ _ _=>(Yf (i:=0) YAN rfl (Or.inl rfl) (.inr rfl))) (λ_ _ _ _ _=>ZI) (λ_ _ _ _ _=>(YK (cz base) (hr.mono (by decide)) (by rfl) cA cB cC .nil Yg (YA (pv 0) YB)))) YB))))) Zq YY)⟩
   (Zd ⟨(YT (YCO (YA (pv 1) (YA (ZJ (N:=["number"]) (ρ:=[none]) (cl:=[]) rfl (Yb.plain rfl (by decide +kernel) (by decide +kernel) rfl (by simp)) (ZK K rfl (pv 4)) (λ_ _ _ _ _=>(Yf (i:=0) YAN rfl (Or.inl rfl) (.inr rfl))) (λ_ _ _ _ _=>ZI) (λ_ _ _ _ _=>(Yx YAn (by rfl) T.iV YJr (YA (pv 0) YB)))) (YA (YR (YU K rfl) (pv 3) (pe_un YFu YC) (λ_ _=>rfl)) YB)))))⟩))))))))),?_⟩
  obtain⟨uc,hval,n8,sO,hone,hlen,qK,sS,ha1,hns⟩:=W;refine⟨_,U,_,_,_,_,_,U,(Den.str z:Den H (.str z) (.str z)).ty,U,YAp (.str z),_,U,?_⟩;refine ZB ?_;refine⟨_,U,U,z," ",U,U,U,(by rw[sizeLine_eq];omega),λt0 uw=>?_⟩;have s1:=YI.upd (o:=YDz (Txt.partition z " ")) uw;have p1:YJ (upd H t0 (YDz (Txt.partition z " "))):=hp.upd rfl;have e1:upd H t0 (YDz (Txt.partition z " ")) t0=some (.tup [.str wd,.str (Txt.partition z " ").2.1,.str (Txt.partition z " ").2.2]):=by rw[YD,<-uc];rfl
  revert s1 p1 e1;generalize upd H t0 (YDz (Txt.partition z " "))=H1;intro s1 p1 e1;refine⟨t0,_,0,_,U,U,SqT.of e1,U,?_⟩;dsimp only[Yu];refine⟨_,U,.inr wd,U,false,by rw[hval];rfl,?_⟩;refine ZB ?_;refine⟨_,U,.inr wd,_,U,hval,?_⟩;dsimp only[Yu];refine Zp (λσ' H'=>∃l3,σ'=[some (.str z),some (.str wd),some (.ref p),some (.ref l3),none]/\YI H1 H'/\YJ H'/\H' l3=some (.lst (ws.map V.str))) ?_ λfin=>?_
  rotate_left
  ·refine⟨_,U,p,_,1,_,U,U,n8.sq H1,U,_,U,?_⟩;refine Zt (λhb=>?_) λhb=>?_
   ·refine⟨_,U,U,_,U,p,_,0,_,U,U,n8.sq H1,U,_,_,U,U,z," ",(a:Int) + 1,U,U,U,⟨by omega,by omega⟩,(by rw[sizeLine_eq];omega),λl hl=>?_⟩;rw[sO hb];exact fin _ _ ⟨l,U,YI.upd hl,p1.upd rfl,YD⟩
   ·refine⟨_,U,U,z," ",U,U,U,(by rw[sizeLine_eq];omega),λl hl=>?_⟩;rw[hone (by simpa using hb)];exact fin _ _ ⟨l,U,YI.upd hl,p1.upd rfl,YD⟩
  rintro σ' H2 ⟨l3,rfl,s2,p2,hl3⟩;refine Zp (λσ' H'=>σ'=[some (.str z),some (.str wd),some (.ref p),some (.ref l3),none]/\H'=H2) ?_ λfin=>?_
  rotate_left
  ·refine⟨_,U,l3,_,U,.inl (SqL.of hl3),_,U,p,_,0,_,U,U,n8.sq H2,U,_,_,U,U,_,U,p,_,1,_,U,U,n8.sq H2,U,_,U,?_⟩;refine Zt (λhb=>?_) λhb=>?_
   ·refine⟨_,_,U,U,U,false,?_,ZB (fin _ _ ⟨U,U⟩)⟩;rw[YI7 (by rw[YI6,hlen,hb];congr 1)];rfl
   ·refine⟨_,_,U,U,U,false,?_,ZB (fin _ _ ⟨U,U⟩)⟩;rw[YI7 (by rw[YI6,hlen,(by simpa using hb:b=false)];congr 1)];rfl
  rintro σ' H3 ⟨rfl,rfl⟩;refine⟨_,U,1,U,_,U,p,_,0,_,U,U,n8.sq _,U,_,_,U,U,_,U,l3,_,U,SqL.of hl3,λlf v_=>?_⟩;have qU:YDD (ws.map V.str) (some 1) (some ((a:Int) + 1))=(ns.map ZS).map V.str:=by
   unfold YDD;have e1:HT.sIx (ws.map V.str).length 0 (some 1)=min 1 (ws.map V.str).length:=HT.sIx_nat _ _ 1;have e2:HT.sIx (ws.map V.str).length (ws.map V.str).length (some ((a:Int) + 1))=min (a + 1) (ws.map V.str).length:=HT.sIx_nat _ _ (a + 1);have hl:(ws.map V.str).length=a + 1 + (if b then 1 else 0):=by rw[YI6,hlen]
   rw[e1,e2,<-qK,show min 1 (ws.map V.str).length=1 by omega,show min (a + 1) (ws.map V.str).length=a + 1 by omega,Nat.add_sub_cancel,List.map_take,List.map_drop]
  rw[qU];have hnl:ns.length<=1:=by
   have:=YJ2 List.length qK;rw[YI6,YJ6]at this;omega
  have s4:=s2.trans (YI.upd (o:=.lst ((ns.map ZS).map V.str)) v_);have p4:YJ (upd H3 lf (.lst ((ns.map ZS).map V.str))):=p2.upd rfl;have l4:upd H3 lf (.lst ((ns.map ZS).map V.str)) lf=some (.lst ((ns.map ZS).map V.str)):=YD;have vg:upd H3 lf (.lst ((ns.map ZS).map V.str)) l3=some (.lst (ws.map V.str)):=(YI.upd v_) _ _ hl3;revert s4 p4 l4 vg;generalize upd H3 lf (.lst ((ns.map ZS).map V.str))=H4;intro s4 p4 l4 vg;have sV:∀(j:Nat) (z':V),((ns.map ZS).map V.str)[j]?=some z'->∃k,ns[j]?=some k/\k < 60/\z'=V.str (ZS k):=λj z' e=>by
   rw[YJz,YJG]at e;cases ek:ns[j]? with
   |none=>rw[ek]at e;cases e
   |some k=>rw[ek]at e;cases e;exact⟨k,U,hns k (YJF ek),U⟩
  dsimp only[Yu];refine⟨p4,_,U,lf,U,⟨_,SqL.of l4⟩,λlc nZ=>?_⟩;refine Yw (n:=((ns.map ZS).map V.str).length) 0 (λj y _=>y=.bl true) (ZF (SqL.of (K:=K) l4)) (λ_ _ _ _ _ h=>h) p4 nZ YJW (YH (by rw[YI6,YI6];omega)) (λτ'=>0 < τ'.length) YJW (λτ' v h=>by rw[YJl];exact h) ?_ ?_
  ·intro τ' j y H' R _ hτ hit hj hs hp' eY hR;obtain⟨k,_,hk,rfl⟩:=sV j y hit;have k0:(k:Int)<=10 ^ 60:=YJn (show(k:Int)<=60 by omega) (by decide);refine⟨_,hτ,ZS k,U,YJR (X9 (by omega) k0) (by decide),hp',?_⟩;rw[YCB (by omega) k0];exact hR _ _ (YI.refl _) hp' rfl
  intro ys H5 hy hP hs yV vh;have e5:ys=(List.replicate ns.length true).map V.bl:=by
   exact trues83 (hy.trans (by rw[YI6,YI6])) hP
  subst e5;refine⟨lc,_,U,SqL.of vh,hs,true,?_,ZB ?_⟩
  ·rw[YC2]
  dsimp only[YAH];refine⟨_,U,_,U,lf,U,⟨_,SqL.of l4⟩,λvm rm=>?_⟩;refine Yw (n:=((ns.map ZS).map V.str).length) 0 (λj y _=>∃k:Nat,ns[j]?=some k/\y=.int (k:Int)) (ZF (SqL.of (K:=K) l4)) (λ_ _ _ _ _ h=>h) p4 rm YJW (YH (by rw[YI6,YI6];omega)) (λτ'=>0 < τ'.length) YJW (λτ' v h=>by rw[YJl];exact h) ?_ ?_
  ·intro τ' j y H' R _ hτ hit hj hs' hp' eY hR;obtain⟨k,ek,hk,rfl⟩:=sV j y hit;have k0:(k:Int)<=10 ^ 60:=YJn (show(k:Int)<=60 by omega) (by decide);have hf:=YDt (YCB (show(0:Int)<=(k:Int) by omega) k0);rw[YGw (show(0:Int)<=(k:Int) by omega)]at hf;exact⟨_,hτ,ZS k,(k:Int),U,hf.1,hf.2,hR _ _ (YI.refl _) hp' ⟨k,ek,U⟩⟩
  intro ys H6 yW hP6 wg yX tO;have e6:ys=ns.map λk:Nat=>V.int (k:Int):=nums83 (yW.trans (by rw[YI6,YI6])) hP6
  subst e6;refine⟨_,U,_,U,l3,_,-1,_,U,U,SqL.of (wg _ _ vg),last83 sS,?_⟩;refine⟨YH (show 3<=1000 by decide),λt ht=>q _ t vm (((s1.trans s4).trans wg).trans (YI.upd ht)) (yX.upd rfl) YD ((YI.upd ht) _ _ tO)⟩
end
abbrev YAd:Stmt:=YB8 (top 103) 1
inductive YC3 (g:Ya):Str->Ya->Str->Prop
 |rule {t:Str}{r:Y5}:Js t=some r->Yo r=true->g.length < 60->t.length<=800->YC3 g ("rule " ++ t) (g ++ [r]) (ZS g.length)
 |drop {n:Nat}:n < g.length->YC3 g ("drop " ++ ZS n) (g.eraseIdx n) "ok"
 |show:YC3 g "show" g (Txt.join "\n" (g.map Yk))
 |need {ks:List Nat}:Xc g ks->YC3 g "needed" g (Txt.join " " (ks.map ZS))
inductive YG5 (C:Addr) (vs:List V) (H:Hp) (Q:VK):Prop where
 |mk (x dx l:Addr) (g g':Ya) (z ans:Str) (aQ:vs=[.ref x,.str z]) (aR:XC C H x dx l g) (bu:YC3 g z g' ans) (cM:YJ H) (dR:∀H',But l H H'->XC C H' x dx l g'->YJ H'->Q (.str ans) H'):YG5 C vs H Q
def YI0 (C:Addr):Sp:=λvs H Q E_=>YG5 C vs H Q
theorem XC.same {C:Addr}{H H':Hp}{x dx l:Addr}{g:Ya} (h:XC C H x dx l g) (s:YI H H'):XC C H' x dx l g:=by
 obtain⟨hx,⟨xs,hl,d⟩,hg⟩:=h;exact⟨s _ _ hx,⟨xs,s _ _ hl,d.same s⟩,hg⟩
theorem YI.but {H H':Hp} (s:YI H H') (l:Addr):But l H H':=λa o _ e=>s a o e
theorem But.pre {l:Addr}{H H1 H2:Hp} (s:YI H H1) (b:But l H1 H2):But l H H2:=λa o ne e=>b a o ne (s a o e)
inductive YFe (g:Ya):Ya->Str->Str->List Nat->Str->Prop
 |rule {t:Str}{r:Y5}:Js t=some r->Yo r=true->g.length < 60->t.length<=800->YFe g (g ++ [r]) (ZS g.length) "rule" [] t
 |drop {n:Nat}:n < g.length->YFe g (g.eraseIdx n) "ok" "drop" [n] (ZS n)
 |show:YFe g g (Txt.join "\n" (g.map Yk)) "show" [] "show"
 |need {ks:List Nat}:Xc g ks->YFe g g (Txt.join " " (ks.map ZS)) "needed" [] "needed"
theorem YG6 (x y:Str):(x ++ y).length=x.length + y.length:=by
 have:=YJ2 List.length (YEl x y);rw[YJL,YAB,YAB,YAB]at this;exact this
theorem YC3.w {g g':Ya}{z ans:Str} (h:YC3 g z g' ans) (u_:g.length<=60):∃wd ns Ye,Wd z wd ns Ye/\z.length<=900/\YFe g g' ans wd ns Ye:=by
 cases h with
 |@rule t r h1 h2 h3 h4=>exact⟨_,_,_,.rule t,by rw[YG6,show("rule ":Str).length=5 by decide +kernel];omega,.rule h1 h2 h3 h4⟩
 |@drop n h=>exact⟨_,_,_,.drop n (by omega),by rw[YG6,show("drop ":Str).length=5 by decide +kernel];have:=X9 (n:=(n:Int)) (by omega) (YJn (show(n:Int)<=60 by omega) (by decide));unfold ZS;omega,.drop h⟩
 |«show»=>exact⟨_,_,_,.show,by decide +kernel,.show⟩
 |need h=>exact⟨_,_,_,.need,by decide +kernel,.need h⟩
section
variable {P:Program}{w:World}{K:W.Frag}{mg:Str->Option Value}{base:Heap}{C:Adr}
theorem JH:YS ["self","row","words","word","numbers","rest","wood","many"] ["self","row"] (YG YAd):=⟨U,U,U,by decide +kernel,U,by decide +kernel,by decide +kernel⟩
theorem YFf {f:Addr}{fd:FuncData} (F:Fun K "say" "Desk.say" YAd f fd) (T:Txt K mg C) (cG:Y6 P w K mg CX0 2 "read_words" ["row"] (YBp)) (bF:Y6 P w K mg CX0 8 "show_grammar" ["grammar"] (YC0)) (bG:Y6 P w K mg CX0 1 "show_numbers" ["numbers"] (YC1)) (gU:Y6 P w K mg (CXo P w) 8 "needed" ["grammar"] (YFZ C.NoGrammar)) (bh:YGi P w K mg CX0 7 C.Desk "add_rule" ["self","written"] (YIy C.Desk)) (bc:YGi P w K mg CX0 1 C.Desk "drop_rule" ["self","number"] (YG3 C.Desk)):Yv P w K mg base CX0 10 f fd ["self","row"] (YI0 C.Desk):=by
 obtain⟨p_,pC,jk,jl,jm,jn⟩:=cG.ok;obtain⟨nH,mR,gW,gY,gZ,g8⟩:=bF.ok;obtain⟨nJ,mU,g_,ie,ig,ik⟩:=bG.ok;obtain⟨sW,rT,nM,nO,nP,nQ⟩:=gU.ok;obtain⟨mV,mH,gC,gn,gD⟩:=bh.ok;obtain⟨mJ,lW,gq,d_,gw⟩:=bc.ok;refine F.ok JH (λvs H Q E h=>?_) (λaB A outer s H vs Q E hr h=>?_)
 ·cases h;subst_vars;rfl
 ·obtain⟨x,dx,l,g,g',z,ans,rfl,dk,dd,hp,q⟩:=h;have m8:=JR dk.g;obtain⟨wd,ns,Ye,hw,hz,dw⟩:=dd.w m8;clear dd;refine qex ?_;refine⟨_,(YM ⟨(YO (i:=2) JH.nd rfl (Or.inl rfl) (YK (jk base) (hr.mono (by decide)) (by rfl) jl jm jn .nil Yg (YA (pv 1) YB)))⟩
   (YM ⟨(YO (i:=3) JH.nd rfl (Or.inl rfl) (YR (YZ K rfl) (pv 2) YC (λ_ _=>rfl)))⟩
   (YM ⟨(YO (i:=4) JH.nd rfl (Or.inl rfl) (YR (YZ K rfl) (pv 2) YC (λ_ _=>rfl)))⟩
   (YM ⟨(YO (i:=5) JH.nd rfl (Or.inl rfl) (YR (YZ K rfl) (pv 2) YC (λ_ _=>rfl)))⟩
   (YM ⟨(Yt (Yl JE (pv 3) YW (Yh _)) (YF (YT (YEJ (pv 0) T.aV gn (gC base) (hr.mono (by decide)) gD .nil Yg (YA (pv 5) YB)))) YY)⟩
   (YM ⟨(Yt (Yl JE (pv 3) YW (Yh _)) (YF (YT (YEJ (pv 0) T.aV d_ (gq base) (hr.mono (by decide)) gw .nil Yg (YA (YR (YU K rfl) (pv 4) YC (λ_ _=>rfl)) YB)))) YY)⟩
   (YM ⟨(Yt (Yl JE (pv 3) YW (Yh _)) (YF (YT (YK (gW base) (hr.mono (by decide)) (by rfl) gY gZ g8 .nil Yg (YA (XI K rfl (pv 0) rfl) YB)))) YY)⟩
   (YM ⟨(Yt (Yl JE (pv 3) YW (Yh _)) (YF (YT (YK (g_ base) (hr.mono (by decide)) (by rfl) ie ig ik .nil Yg (YA (YK (nM base) (hr.mono (by decide)) (by rfl) nO nP nQ .nil passX (YA (XI K rfl (pv 0) rfl) YB)) YB)))) YY)⟩
   (YM ⟨(Yt (Yl JE (pv 3) YW (Yh _)) Zq YY)⟩
   ⟨Zq⟩))))))))),?_⟩
  refine⟨_,U,z,wd,Ye,ns,U,hw,hz,hp,λH1 t l1 s1 p1 ht hl1=>?_⟩;dsimp only[Yu];refine⟨_,U,t,_,0,_,U,U,SqT.of ht,U,?_⟩;dsimp only[Yu];refine⟨_,U,t,_,1,_,U,U,SqT.of ht,U,?_⟩;dsimp only[Yu];refine⟨_,U,t,_,2,_,U,U,SqT.of ht,U,?_⟩;dsimp only[Yu];have lR:=dk.same s1;refine⟨_,U,U,_,U,?_⟩;cases dw with
  |@rule t r h1 h2 h3 h4=>
   rw[YI7 rfl];refine ZO ?_;refine⟨_,U,x,dx,_,U,lR.x,U,_,U,x,dx,l,g,r,_,U,lR,h1,by omega,h2,h3,p1,λH2 b2 vo p2=>q H2 (But.pre s1 b2) vo p2⟩
  |@drop n hn=>
   rw[YI8 (by decide +kernel)];refine ZB ?_;dsimp only[YAH];refine⟨_,U,U,_,U,?_⟩;rw[YI7 rfl];refine ZO ?_;exact⟨_,U,x,dx,_,U,lR.x,U,_,U,l1,_,0,_,U,U,SqL.of hl1,U,x,dx,l,g,n,U,lR,hn,p1,λH2 b2 vo p2=>q H2 (But.pre s1 b2) vo p2⟩
  |«show»=>
   rw[YI8 (by decide +kernel)];refine ZB ?_;dsimp only[YAH];refine⟨_,U,U,_,U,?_⟩;rw[YI8 (by decide +kernel)];refine ZB ?_;dsimp only[YAH];refine⟨_,U,U,_,U,?_⟩;rw[YI7 rfl];refine ZO ?_;have rM:=lR;obtain⟨hx,⟨xs,hl,dxs⟩,hg⟩:=rM;exact⟨_,U,x,C.Desk,dx,_,_,U,hx,T.aV,T.aq,U,_,g,U,.lst (.inl hl) dxs,hg,p1,λH2 s2 p2=>q H2 (YI.but (s1.trans s2) l) (lR.same s2) p2⟩
  |@need ks hk=>
   rw[YI8 (by decide +kernel)];refine ZB ?_;dsimp only[YAH];refine⟨_,U,U,_,U,?_⟩;rw[YI8 (by decide +kernel)];refine ZB ?_;dsimp only[YAH];refine⟨_,U,U,_,U,?_⟩;rw[YI8 (by decide +kernel)];refine ZB ?_;dsimp only[YAH];refine⟨_,U,U,_,U,?_⟩;rw[YI7 rfl];refine ZO ?_;have rM:=lR;obtain⟨hx,⟨xs,hl,dxs⟩,hg⟩:=rM;refine⟨_,U,x,C.Desk,dx,_,_,U,hx,T.aV,T.aq,U,_,Jr g,U,.lst (.inl hl) dxs,YAu hg,p1,λg2 eg hg2 l2 s ks2 H2 hs hf up all s2 p2 nl e2=>?_,λe=>by rw[Jw,hg]at e;cases e⟩;cases YHV eg;have ek:=(YIx hs hf up all).one hk;subst ek;exact⟨l2,_,U,e2,YJR hk.len m8,λk h=>YJQ (hk.lt k h) m8,p2,λH3 s3 p3=>q H3 (YI.but ((s1.trans s2).trans s3) l) ((lR.same s2).same s3) p3⟩
end
abbrev Jk:Stmt:=top 105
abbrev XV:Stmt:=top 106
abbrev ZQ:Stmt:=top 107
abbrev Z0:Stmt:=top 108
abbrev XW:Stmt:=top 109
abbrev XX:Stmt:=top 110
abbrev YAz:Stmt:=top 117
theorem Z8:(["_law_k","_law_big","_law_odd"]:List Str).Nodup:=by decide +kernel
theorem ZE:(["_law_k","_law_at","_law_base","_law_big","_law_odd"]:List Str).Nodup:=by decide +kernel
inductive YFg (K:W.Frag) (vs:List V) (H:Hp) (Q:VK):Prop where
 |mk (a:Addr) (ns:List Int) (k:Int) (aQ:vs=[.ref a,.int k]) (aR:SqL K H a (ns.map V.int)) (bu:0<=k) (cM:k<=1000) (dR:∀v:Int,0<=v->v < 2147483647->Q (.int v) H):YFg K vs H Q
def YEm (K:W.Frag):Sp:=λvs H Q E_=>YFg K vs H Q
inductive YFh (vs:List V) (H:Hp) (Q:VK):Prop where
 |mk (c:Int) (aQ:vs=[.int c]) (aR:YJ H) (bu:∀l (a b d:Nat) H',JZ a=true->JZ b=true->JZ d=true->YI H H'->YJ H'->H l=none->H' l=some (.lst [.str ⟨#[a]⟩,.str ⟨#[b]⟩,.str ⟨#[d]⟩])->Q (.ref l) H'):YFh vs H Q
def YG7:Sp:=λvs H Q E_=>YFh vs H Q
inductive YFi (vs:List V) (H:Hp) (Q:VK):Prop where
 |mk (c:Int) (aQ:vs=[.int c]) (aR:0<=c) (bu:c < 2147483648) (cM:YJ H) (dR:∀l (ns:List Str) H',ns.length=4->(∀z∈ns,isNameS z=true)->YI H H'->YJ H'->H l=none->H' l=some (.lst (ns.map V.str))->Q (.ref l) H'):YFi vs H Q
def YG8:Sp:=λvs H Q E_=>YFi vs H Q
inductive YD7 (vs:List V) (H:Hp) (Q:VK):Prop where
 |mk (c:Int) (aQ:vs=[.int c]) (aR:∀z:Int,0<=z->z<=10 ^ 60->Q (.int z) H):YD7 vs H Q
def YFj:Sp:=λvs H Q E_=>YD7 vs H Q
inductive YFk (vs:List V) (H:Hp) (Q:VK):Prop where
 |mk (c:Int) (m:Addr) (zs:List Str) (n:Int) (aQ:vs=[.int c,.ref m,.int n]) (aR:H m=some (.lst (zs.map V.str))) (bu:1<=zs.length) (cM:zs.length<=100) (dR:0<=n) (lO:n<=6) (sr:YJ H) (uW:∀t (ps:List Str) H',(ps.length:Int)<=n->(∀p∈ps,p∈zs)->YI H H'->YJ H'->H t=none->H' t=some (.tup (ps.map V.str))->Q (.ref t) H'):YFk vs H Q
def YG9:Sp:=λvs H Q E_=>YFk vs H Q
def SOME:Str:=YEV ZQ 0 ++ YEV ZQ 1
theorem YD8:SOME.cps.toList=YBL:=by decide +kernel
theorem YBZ:SOME.length<=sizeLine:=YH (by decide +kernel)
theorem YD9 {z:Str} (h:isNameS z=true):ZA z=true:=by
 unfold ZA;rw[h,Bool.or_true]
theorem YI1 {z:Str}{c:Nat}{j:Int} (hz:z.length<=7) (hl:z.cps.toList.all ZG=true) (hc:ZG c=true) (h0:0<=j) (h1:j<=z.length):
  isNameS (Txt.slice z none (some j) ++ ⟨#[c]⟩ ++ Txt.slice z (some j) none)=true:=by
 rw[YBi,XB,XB,YIh h0 h1,YGB h0 h1];have qu:z.cps.toList.length=z.length:=YJk;unfold YGs;have e1:((z.cps.toList.take j.toNat ++ [c] ++ z.cps.toList.drop j.toNat).length)=z.length + 1:=by
  rw[YJL,YJL,YJ6,List.length_drop,qu];show min j.toNat z.length + 1 + (z.length - j.toNat)=_
  lia
 show(decide (1<=(z.cps.toList.take j.toNat ++ [c] ++ z.cps.toList.drop j.toNat).length) && decide ((z.cps.toList.take j.toNat ++ [c] ++ z.cps.toList.drop j.toNat).length<=8) && (z.cps.toList.take j.toNat ++ [c] ++ z.cps.toList.drop j.toNat).all ZG)=true;rw[e1,YI7 (by lia),YI7 (by lia)];rw[YJP]at hl;rw[List.all_append,List.all_append];have a1:(z.cps.toList.take j.toNat).all ZG=true:=YJP.mpr λx hx=>hl x (List.mem_of_mem_take hx)
 have a2:(z.cps.toList.drop j.toNat).all ZG=true:=YJP.mpr λx hx=>hl x (List.mem_of_mem_drop hx)
 rw[a1,a2];show(true && (true && [c].all ZG && true))=true;rw[List.all_cons,hc];rfl
theorem YI2 {c:Nat}{n:Int} (hc:ZG c=true) (h0:1<=n) (h1:n<=8):isNameS (Txt.mul ⟨#[c]⟩ n)=true:=by
 rw[YBi,PyProof.Rows.mul_one_list];unfold YGs;rw[List.length_replicate,YI7 (by lia),YI7 (by lia)];show(List.replicate n.toNat c).all ZG=true;rw[YJP];intro x hx;rw[(List.mem_replicate.mp hx).2];exact hc
section
variable {P:Program}{w:World}{K:W.Frag}{mg:Str->Option Value}{base:Heap}{C:Adr}
theorem YB0:YS ["_law_script","_law_k"] ["_law_script","_law_k"] (YG Jk):=⟨U,U,U,by decide +kernel,U,by decide +kernel,by decide +kernel⟩
theorem YB1 {f:Addr}{fd:FuncData} (F:Fun K "_law_cell_at" "_law_cell_at" Jk f fd) (T:Txt K mg C):Yv P w K mg base CX0 1 f fd ["_law_script","_law_k"] (YF9 K):=by
 refine F.ok YB0 (λvs H Q E h=>?_) (λaB A outer s H vs Q E hr h=>?_)
 ·cases h;subst_vars;rfl
 ·obtain⟨a,ns,k,rfl,hS,h0,q⟩:=h;refine⟨_,(YE (Yt (Yl YCM (pv 1) (YQ (Yc K rfl) (by rfl) T.aH YJE (YA (pv 0) YB)) (Yh _)) (YF (YT (YR (YU K rfl) (pv 0) (pv 1) (λ_ _=>rfl)))) YY)
   (YF (YT YC))),?_⟩
  refine⟨_,U,_,U,a,_,U,.inl hS,_,_,U,U,_,U,?_⟩;refine Zt (λh1=>?_) λh1=>?_
  ·have h1':=YJH h1;obtain⟨v,hv,hm⟩:=JY h0 h1';obtain⟨n,_,rfl⟩:=YJM.mp hm;exact⟨_,U,_,U,a,_,k,_,U,U,hS,hv,q n⟩
  ·exact q 0
theorem YAO:YS ["_law_script","_law_k","_law_cell"] ["_law_script","_law_k"] (YG XV):=⟨U,U,U,by decide +kernel,U,by decide +kernel,by decide +kernel⟩
theorem YDU {f:Addr}{fd:FuncData} (F:Fun K "_law_mixed" "_law_mixed" XV f fd) (T:Txt K mg C) (az:Y6 P w K mg CX0 1 "_law_cell_at" ["_law_script","_law_k"] (YF9 K)):Yv P w K mg base CX0 2 f fd ["_law_script","_law_k"] (YEm K):=by
 obtain⟨il,gF,bH,bI,bJ,bK⟩:=az.ok;refine F.ok YAO (λvs H Q E h=>?_) (λaB A outer s H vs Q E hr h=>?_)
 ·cases h;subst_vars;rfl
 ·obtain⟨a,ns,k,rfl,hS,k0,k1,q⟩:=h;refine⟨_,(YE (YO (i:=2) YAO.nd rfl (Or.inl rfl) (YL Y1 (YK (bH base) (hr.mono (by decide)) (by rfl) bI bJ bK .nil Yg (YA (pv 0) (YA (pv 1) YB))) YC))
   (YF (YT (YL Y1 (YL YAR (YL ZD (YL ZD (YL ZD (YL YAR (pv 2) (pv 2)) (pv 2)) (YL YAR (YL YAR YC (pv 1)) (pv 1))) YC) YC) YC)))),?_⟩
  refine⟨_,U,_,U,a,ns,k,U,hS,k0,λv=>⟨_,_,U,U,(by show(0:Int) < 2147483629;decide),?_⟩⟩;have c0:0<=v % 2147483629:=by lia
  have c1:v % 2147483629 < 2147483629:=by lia
  refine⟨_,U,_,U,_,_,U,U,.inl ⟨by lia,by lia⟩,_,U,_,_,U,U,_,U,_,_,U,U,.inl ⟨by decide,by decide⟩,_,U,_,_,U,U,.inr ⟨by lia,by lia⟩,_,_,U,U,_,_,U,U,_,_,U,U,.inr ⟨by decide,by decide⟩,_,_,U,U,(by show(0:Int) < 2147483647;decide),q _ ?_ ?_⟩
  ·exact YKL _ (by decide)
  ·exact YKB _ (by decide)
theorem Jz:YS ["_law_cell","_law_some"] ["_law_cell"] (YG ZQ):=⟨U,U,U,by decide +kernel,U,by decide +kernel,by decide +kernel⟩
theorem YDV {f:Addr}{fd:FuncData} (F:Fun K "_law_signs" "_law_signs" ZQ f fd) (T:Txt K mg C):Yv P w K mg base CX0 1 f fd ["_law_cell"] (YG7):=by
 refine F.ok Jz (λvs H Q E h=>?_) (λaB A outer s H vs Q E hr h=>?_)
 ·cases h;subst_vars;rfl
 ·obtain⟨c,rfl,hp,q⟩:=h;refine⟨_,(YE (YO (i:=1) Jz.nd rfl (Or.inl rfl) YW)
   (YE (YO (i:=1) Jz.nd rfl (Or.inl rfl) (YL Zm (pv 1) YW))
   (YF (YT (JW (YA (YR Jv (pv 1) (YL Y1 (pv 0) YC) (λ_ _=>rfl)) (YA (YR Jv (pv 1) (YL Y1 (YL ZD (YL ZD (pv 0) YC) (YL Y1 (YL Y9 (pv 0) YC) YC)) YC) (λ_ _=>rfl)) (YA (YR Jv (pv 1) (YL Y1 (YL ZD (YL ZD (pv 0) YC) (YL Y1 (YL Y9 (pv 0) YC) YC)) YC) (λ_ _=>rfl)) YB)))))))),?_⟩
  refine⟨_,U,YEV ZQ 0,YEV ZQ 1,U,U,by decide +kernel,?_⟩;have at_:∀i:Int,∃k,atI SOME.cps.toList (i % 94)=some k/\JZ k=true:=λi=>by
   obtain⟨k,hk,hm⟩:=JY (xs:=SOME.cps.toList) (i:=i % 94) (by lia) (by rw[YD8,YHX];lia);rw[YD8]at hm;exact⟨k,hk,YGA hm⟩
  obtain⟨k1,e1,g1⟩:=at_ c;obtain⟨k2,e2,g2⟩:=at_ (c + 1 + c / 94 % 46);obtain⟨k3,e3,g3⟩:=at_ (c + 47 + c / 4324 % 46);refine⟨_,U,_,U,_,_,U,U,(by show(0:Int) < 94;decide),SOME,_,k1,U,U,YBZ,e1,?_⟩;refine⟨_,U,_,U,_,_,U,U,_,U,_,_,U,U,⟨by decide,by decide⟩,_,_,U,U,(by show(0:Int) < 46;decide),_,_,U,U,_,_,U,U,(by show(0:Int) < 94;decide),SOME,_,k2,U,U,YBZ,e2,?_⟩;refine⟨_,U,_,U,_,_,U,U,_,U,_,_,U,U,⟨by decide,by decide⟩,_,_,U,U,(by show(0:Int) < 46;decide),_,_,U,U,_,_,U,U,(by show(0:Int) < 94;decide),SOME,_,k3,U,U,YBZ,e3,?_⟩;exact⟨YH (by show 3<=1000;decide),λl hl=>q l k1 k2 k3 _ g1 g2 g3 (YI.upd hl) (hp.upd rfl) hl YD⟩
theorem Y4:YS ["_law_cell","_law_big","_law_odd","_law_k","_law_base","_law_at"] ["_law_cell"] (YG Z0):=⟨U,U,U,by decide +kernel,U,by decide +kernel,by decide +kernel⟩
theorem YDW {f:Addr}{fd:FuncData} (F:Fun K "_law_names" "_law_names" Z0 f fd) (T:Txt K mg C):Yv P w K mg base CX0 1 f fd ["_law_cell"] (YG8):=by
 refine F.ok Y4 (λvs H Q E h=>?_) (λaB A outer s H vs Q E hr h=>?_)
 ·cases h;subst_vars;rfl
 ·obtain⟨c,rfl,c0,c1,hp,q⟩:=h;refine⟨_,(YE (YO (i:=1) Y4.nd rfl (Or.inr rfl) YW)
   (YE (YO (i:=2) Y4.nd rfl (Or.inr rfl) (YL Y1 (pv 0) YC))
   (YE (YO (i:=0) Y4.nd rfl (Or.inl rfl) (YL Y9 (pv 0) YC))
   (YE (Yt (Yl JE (YL Y1 (pv 0) YC) YC (Yh _)) (YF (YT (ZJ (N:=["_law_k","_law_big","_law_odd"]) (ρ:=[none,some 1,some 2]) rfl (Yb.closes ["_law_cell","_law_big","_law_odd","_law_k","_law_base","_law_at"] (YG Z0).names rfl rfl rfl rfl (by decide +kernel) (by decide +kernel) (λx h=>J4 h) (by decide +kernel) rfl (by decide +kernel)) (J3 rfl T.dH (YA YC YB)) (λ_ _ _ _ _=>(Yf (i:=0) Z8 rfl (Or.inl rfl) (.inr rfl))) (λ_ _ _ _ _=>ZI) (λ_ _ _ _ _=>(YL YF4 (YR Jv (pv 1) (pv 2) (λ_ _=>rfl)) (YL YEI (YL ZD (YL YAR YC (pv 0)) YC) (YL Y9 (pv 0) YC))))))) YY)
   (YE (YO (i:=4) Y4.nd rfl (Or.inr rfl) YW)
   (YE (Z3 PassesOwn.never rfl (J3 rfl T.dH (YA (YL Y1 (YL Y9 (pv 0) YC) YC) YB)) (Yf (i:=3) Y4.nd rfl (Or.inl rfl)) (YF (YO (i:=4) Y4.nd rfl (Or.inr rfl) (YL Zm (pv 4) (YR Jv (pv 1) (YL Y1 (YL Y9 (YL YAR (pv 0) (YL ZD (pv 3) YC)) YC) YC) (λ_ _=>rfl))))))
   (YE (YO (i:=5) Y4.nd rfl (Or.inr rfl) (YL Y1 (YL Y9 (pv 0) YC) (YL ZD (YQ JP (by rfl) T.aH YJE (YA (pv 4) YB)) YC)))
   (YF (YT (ZJ (N:=["_law_k","_law_at","_law_base","_law_big","_law_odd"]) (ρ:=[none,some 5,some 4,some 1,some 2]) rfl (Yb.closes ["_law_cell","_law_big","_law_odd","_law_k","_law_base","_law_at"] (YG Z0).names rfl rfl rfl rfl (by decide +kernel) (by decide +kernel) (λx h=>J4 h) (by decide +kernel) rfl (by decide +kernel)) (J3 rfl T.dH (YA YC YB)) (λ_ _ _ _ _=>(Yf (i:=0) ZE rfl (Or.inl rfl) (.inr rfl))) (λ_ _ _ _ _=>ZI) (λ_ _ _ _ _=>(YL Zm (YL Zm (Xj YIN (pv 2) YB7 (X5 (pv 1))) (YR Jv (pv 3) (YL ZD (pv 4) (pv 0)) (λ_ _=>rfl))) (Xj YIN (pv 2) (X5 (pv 1)) YB7))))))))))))),?_⟩
  refine⟨_,U,_,_,U,U,(by show(0:Int) < 23;decide),?_⟩;refine⟨_,U,_,_,U,U,⟨by decide,by decide⟩,?_⟩;refine⟨_,U,_,_,U,U,(by show(0:Int) < 4;decide),U,_,U,Zt (λh0=>?_) λh0=>?_⟩
  ·refine⟨4,U,by decide,by decide,λl hl=>?_⟩;refine Yw (n:=4) 0 (λk y _=>∃z,y=.str z/\isNameS z=true) YBh (λ_ _ _ _ _ h=>h) hp hl (by show 0 < 3;decide) (YH (by decide)) (λτ'=>∃v,τ'=[v,some (.str BIG),some (.int (c % 23))]) ⟨_,U⟩ ?_ ?_ ?_
   ·rintro τ' v ⟨w,rfl⟩;exact⟨v,U⟩
   ·rintro τ' k x H' R ⟨w,rfl⟩ hτ hit hk hs hp' eY hR;have ew:w=some x:=by simpa using hτ
    subst ew hit;obtain⟨c2,hc2,hm⟩:=JY (xs:=BIG.cps.toList) (i:=c % 23) (by lia) (by rw[YEU];lia);refine⟨_,U,_,U,BIG,_,c2,U,U,YCh,hc2,_,U,_,_,U,U,.inl ⟨by decide,by decide⟩,_,_,U,U,_,U,_,_,U,U,⟨by decide,by decide⟩,_,_,U,U,_,_,U,U,(by show 1<=1000;decide),?_,?_,hR _ _ (YI.refl _) hp' ⟨_,U,YI2 (YAX hm) ?_ ?_⟩⟩ <;> lia
   ·intro ys H' hy hP hs hp' hl';obtain⟨zs,rfl,hz⟩:=YAY hP;exact q l zs H' (by rw[YI6]at hy;exact hy) hz hs hp' hl hl'
  ·refine⟨_,U,_,_,U,U,⟨by decide,by decide⟩,_,_,U,U,(by show(0:Int) < 8;decide),_,U,(in62 (by lia) (by lia)).1,(in62 (by lia) (by lia)).2,?_⟩;refine X4 (lo:=0) (n:=(c / 23 / 4 % 8).toNat) (λi σ H2=>H2=H/\∃(z:Str) (v:Option V),σ=[some (.int (c / 23)),some (.str BIG),some (.int (c % 23)),v,some (.str z),none]/\z.length=i/\z.cps.toList.all ZG=true) ⟨U,_,none,U,(by decide +kernel),(by decide +kernel)⟩ ?_ ?_
   ·rintro i σ H2 hi ⟨rfl,z,v,rfl,hz,qu⟩;have hi8:i < 8:=by lia
    obtain⟨c2,hc2,hm⟩:=JY (xs:=BIG.cps.toList) (i:=c / 23 * (0 + (i:Int) + 3) / 7 % 26) (by lia) (by rw[YEU];lia);refine⟨_,U,_,U,_,U,_,U,_,_,U,U,_,_,U,U,.inl ⟨by lia,by lia⟩,_,_,U,U,⟨by decide,by decide⟩,_,_,U,U,(by show(0:Int) < 26;decide),BIG,_,c2,U,U,YCh,hc2,z,_,U,U,YH (by show z.length + 1<=1000;lia),?_⟩;refine⟨U,z ++ ⟨#[c2]⟩,_,U,by rw[slen,hz];rfl,?_⟩;rw[XB,List.all_append,qu];show(true && [c2].all ZG)=true;rw[List.all_cons,YAX hm];rfl
   ·rintro σ H2 ⟨rfl,z,v,rfl,hz,qu⟩;have yZ:z.length<=7:=by lia
    refine⟨_,U,_,_,U,U,⟨by decide,by decide⟩,_,U,z,U,YH (by lia),_,_,U,U,_,_,U,U,(by show(0:Int) < (z.length:Int) + 1;lia),?_⟩;have a0:0<=c / 23 / 32 % ((z.length:Int) + 1):=YKL _ (by lia);have a1:c / 23 / 32 % ((z.length:Int) + 1) < (z.length:Int) + 1:=YKB _ (by lia);obtain⟨at_,hat⟩:∃a,a=c / 23 / 32 % ((z.length:Int) + 1):=⟨_,U⟩;rw[<-hat]at a0 a1;refine⟨4,U,by decide,by decide,λl hl=>?_⟩;refine Yw (n:=4) 0 (λk y _=>∃z,y=.str z/\isNameS z=true) YBh (λ_ _ _ _ _ h=>h) hp hl (by show 0 < 5;decide) (YH (by decide)) (λτ'=>∃v,τ'=[v,some (.int at_),some (.str z),some (.str BIG),some (.int (c % 23))]) ⟨none,by rw[hat];rfl⟩ ?_ ?_ ?_
    ·rintro τ' v ⟨w,rfl⟩;exact⟨v,U⟩
    ·rintro τ' k x H' R ⟨w,rfl⟩ hτ hit hk hs hp' eY hR;have ew:w=some x:=by simpa using hτ
     subst ew hit;obtain⟨c2,hc2,hm⟩:=JY (xs:=BIG.cps.toList) (i:=c % 23 + (0 + (k:Int))) (by lia) (by rw[YEU];lia);have q1:=Txt.slice_le z none (some at_);have q2:=Txt.slice_le z (some at_) none;refine⟨_,U,_,U,_,U,z,U,YH (by lia),_,U,_,U,_,U,_,_,U,U,BIG,_,c2,U,U,YCh,hc2,_,_,U,U,YH (by show _ + 1<=1000;lia),_,U,_,U,_,U,z,U,YH (by lia),_,_,U,U,YH (by rw[slen];show _ + 1 + _<=1000;lia),hR _ _ (YI.refl _) hp' ⟨_,U,YI1 yZ qu (YAX hm) a0 (by lia)⟩⟩
    ·intro ys H' hy hP hs hp' hl';obtain⟨zs,rfl,hz⟩:=YAY hP;exact q l zs H' (by rw[YI6]at hy;exact hy) hz hs hp' hl hl'
theorem YDX:YS ["_law_cell"] ["_law_cell"] (YG XW):=⟨U,U,U,by decide +kernel,U,by decide +kernel,by decide +kernel⟩
theorem YDY {f:Addr}{fd:FuncData} (F:Fun K "_law_worth" "_law_worth" XW f fd) (T:Txt K mg C):Yv P w K mg base CX0 1 f fd ["_law_cell"] (YFj):=by
 refine F.ok YDX (λvs H Q E h=>?_) (λaB A outer s H vs Q E hr h=>?_)
 ·cases h;subst_vars;rfl
 ·obtain⟨c,rfl,q⟩:=h;refine⟨_,(YE (Yt (Yl JE (YL Y1 (pv 0) YC) YC (Yh _)) (YF (YT (YL Y1 (YL Y9 (pv 0) YC) (YL ZD (YL YHw YC YC) YC)))) YY)
   (YF (YT (YL Y1 (YL Y9 (pv 0) YC) YC)))),?_⟩
  have big:(1000:Int)<=10 ^ 60:=by decide
  refine⟨_,U,_,_,U,U,(by show(0:Int) < 3;decide),U,_,U,Zt (λ_=>?_) λ_=>?_⟩
  ·refine⟨_,U,_,_,U,U,⟨by decide,by decide⟩,_,_,U,U,⟨by decide,by decide,by decide⟩,_,_,U,U,_,_,U,U,(by show(0:Int) < 10 ^ (60:Int).toNat + 1;decide),q _ ?_ ?_⟩
   ·exact YKL _ (by decide)
   ·exact Int.le_of_lt_add_one (YKB _ (by decide))
  ·refine⟨_,U,_,_,U,U,⟨by decide,by decide⟩,_,_,U,U,(by show(0:Int) < 4;decide),q _ ?_ ?_⟩
   ·show 0<=c / 3 % 4
    lia
   ·show c / 3 % 4<=10 ^ 60
    lia
theorem ZV:YS ["_law_cell","_law_menu","_law_most","_law_size","_law_parts_here","_law_k"] ["_law_cell","_law_menu","_law_most"] (YG XX):=⟨U,U,U,by decide +kernel,U,by decide +kernel,by decide +kernel⟩
theorem YDZ {f:Addr}{fd:FuncData} (F:Fun K "_law_parts" "_law_parts" XX f fd) (T:Txt K mg C):Yv P w K mg base CX0 1 f fd ["_law_cell","_law_menu","_law_most"] (YG9):=by
 refine F.ok ZV (λvs H Q E h=>?_) (λaB A outer s H vs Q E hr h=>?_)
 ·cases h;subst_vars;rfl
 ·obtain⟨c,m,zs,n,rfl,hm,z1,z2,n0,n6,hp,q⟩:=h;refine⟨_,(YE (YO (i:=3) ZV.nd rfl (Or.inl rfl) (YL Y1 (pv 0) (YL ZD (pv 2) YC)))
   (YE (YO (i:=0) ZV.nd rfl (Or.inl rfl) (YL Y9 (pv 0) (YL ZD (pv 2) YC)))
   (YE (YO (i:=4) ZV.nd rfl (Or.inl rfl) (JW YB))
   (YE (Z3 PassesOwn.never rfl (J3 rfl T.dH (YA (pv 3) YB)) (Yf (i:=5) ZV.nd rfl (Or.inl rfl)) (YE (JO (ZL K rfl YJi YJ4 YJ3 Z4 (pv 4) (YA (YR (YU K rfl) (pv 1) (YL Y1 (pv 0) (YQ (Yc K rfl) (by rfl) T.aH YJE (YA (pv 1) YB))) (λ_ _=>rfl)) YB)))
   (YF (YO (i:=0) ZV.nd rfl (Or.inl rfl) (YL Y9 (pv 0) (YQ (Yc K rfl) (by rfl) T.aH YJE (YA (pv 1) YB)))))))
   (YF (YT (Yx (Xp K rfl) (by rfl) T.gJ YJ7 (YA (pv 4) YB)))))))),?_⟩
  refine⟨_,U,_,U,_,_,U,U,_,_,U,U,(by show(0:Int) < n + 1;lia),?_⟩;refine⟨_,U,_,U,_,_,U,U,_,_,U,U,⟨by lia,by lia⟩,?_⟩;have s0:0<=c % (n + 1):=YKL _ (by lia);have s1:c % (n + 1) < n + 1:=YKB _ (by lia);obtain⟨sz,hsz⟩:∃sz,sz=c % (n + 1):=⟨_,U⟩;rw[<-hsz]at s0 s1;refine⟨YJh _,λl hl=>?_⟩;refine⟨_,U,sz,by rw[hsz],(in62 (by lia) (by lia)).1,(in62 (by lia) (by lia)).2,?_⟩;have nml:m≠l:=YV hm hl;refine X4 (lo:=0) (n:=sz.toNat) (λi σ H2=>∃(ps:List Str) (x:Int) (v:Option V),H2=upd H l (.lst (ps.map V.str))/\ps.length=i/\(∀p∈ps,p∈zs)/\σ=[some (.int x),some (.ref m),some (.int n),some (.int sz),some (.ref l),v]) ⟨[],_,none,U,U,by simp,by rw[hsz];rfl⟩ ?_ ?_
  ·rintro i σ H2 hi ⟨ps,x,v,rfl,hpl,hpm,rfl⟩;have hm2:upd H l (.lst (ps.map V.str)) m=some (.lst (zs.map V.str)):=by rw[YN nml];exact hm
   have qu:((zs.map V.str).length:Int)=(zs.length:Int):=by rw[YI6]
   obtain⟨y,hy,hmem⟩:=JY (xs:=zs.map V.str) (i:=x % ((zs.map V.str).length:Int)) (YKL _ (by lia)) (YKB _ (by lia));obtain⟨z,hz,rfl⟩:=YJM.mp hmem;refine⟨_,U,.inl ⟨U,_,SqL.of YD⟩,_,U,_,U,_,U,m,_,U,.inl (SqL.of hm2),_,_,U,U,(by lia),m,_,_,_,U,U,SqL.of hm2,hy,l,_,.str z,U,U,YD,?_,?_⟩
   ·rw[YI6];exact YJQ (show _ < 1000 by lia) (YH (YJB _))
   ·refine⟨_,U,_,U,m,zs.map V.str,U,.inl (SqL.of ?_),_,_,U,U,⟨by show(0:Int) < ((zs.map V.str).length:Int);lia,by show((zs.map V.str).length:Int) < 1073741824;lia⟩,ps ++ [z],_,_,?_,by rw[YJL,hpl];rfl,?_,U⟩
    ·rw[X3,YN nml];exact hm
    ·rw[X3,YJj];rfl
    ·intro p hp;rcases YJg.mp hp with h |h
     ·exact hpm p h
     ·rw[YJa.mp h];exact hz
  ·rintro σ H2 ⟨ps,x,v,rfl,hpl,hpm,rfl⟩;refine⟨_,U,l,_,U,.inl ⟨SqL.of YD,λt ht=>?_⟩⟩;have s2:=YI.upd (o:=.lst (ps.map V.str)) hl;exact q t ps _ (by lia) hpm (s2.trans (YI.upd ht)) ((hp.upd rfl).upd rfl) (s2.free ht) YD
end
abbrev Jl:Stmt:=top 111
abbrev X1:Stmt:=top 112
theorem YA0:(["_law_sign"]:List Str).Nodup:=by decide +kernel
inductive YA1 (vs:List V) (H:Hp) (Q:VK):Prop where
 |mk (x:V) (r:Y5) (aQ:vs=[x]) (aR:Den H x (Yp r)) (bu:Yo r=true) (cM:YJ H) (dR:∀H',YI H H'->YJ H'->Q (.str (Yk r)) H'):YA1 vs H Q
def X2:Sp:=λvs H Q E_=>YA1 vs H Q
inductive YEA (K:W.Frag) (vs:List V) (H:Hp) (Q:VK):Prop where
 |mk (a:Addr) (ns:List Int) (k:Int) (aQ:vs=[.ref a,.int k]) (aR:SqL K H a (ns.map V.int)) (bu:0<=k) (cM:k<=100) (dR:YJ H) (lO:∀(v:V) (r:Y5) (H':Hp),Yo r=true->YI H H'->YJ H'->Den H' v (Yp r)->Q v H'):YEA K vs H Q
def YFl (K:W.Frag):Sp:=λvs H Q E_=>YEA K vs H Q
theorem YHo (zs:List Str):YDD (zs.map V.str) none (some 1)=(zs.take 1).map V.str:=by
 unfold YDD;have e:HT.sIx (zs.map V.str).length (zs.map V.str).length (some 1)=min 1 (zs.map V.str).length:=HT.sIx_nat _ _ 1;rw[e,show HT.sIx (zs.map V.str).length 0 none=0 from rfl,List.drop_zero,Nat.sub_zero,YI6,List.map_take];cases zs <;> simp
theorem YC4 {r:Y5} (h:Yo r=true):0<=r.2.2/\r.2.2<=10 ^ 60/\r.2.1.length<=6:=by
 unfold Yo at h;simp only[YJA,YJb]at h;exact⟨h.2.2.1,h.2.2.2,h.2.1.1⟩
section
variable {P:Program}{w:World}{K:W.Frag}{mg:Str->Option Value}{base:Heap}{C:Adr}
theorem JM:YS ["_law_rule_here","_law_words","_law_part"] ["_law_rule_here"] (YG Jl):=⟨U,U,U,by decide +kernel,U,by decide +kernel,by decide +kernel⟩
theorem YB2 {f:Addr}{fd:FuncData} (F:Fun K "_law_written" "_law_written" Jl f fd) (T:Txt K mg C):Yv P w K mg base CX0 1 f fd ["_law_rule_here"] (X2):=by
 refine F.ok JM (λvs H Q E h=>?_) (λaB A outer s H vs Q E hr h=>?_)
 ·cases h;subst_vars;rfl
 ·obtain⟨x,r,rfl,den,hok,hp,q⟩:=h;refine qex ?_;refine⟨_,(YM ⟨(YO (i:=1) JM.nd rfl (Or.inl rfl) (JW (YA (YR (YZ K rfl) (pv 0) YC (λ_ _=>rfl)) (YA (Yx ZN (by rfl) T.cO YJZ (YA (YR (YZ K rfl) (pv 0) YC (λ_ _=>rfl)) YB)) (YA YW YB)))))⟩
   (YM ⟨(Z3 PassesOwn.never rfl (X8 K rfl (YR (YZ K rfl) (pv 0) YC (λ_ _=>rfl))) (Yf (i:=2) JM.nd rfl (Or.inl rfl)) (YF (JO (ZL K rfl YJi YJ4 YJ3 Z4 (pv 1) (YA (YR (YU K rfl) (JW (YA YW (YA (pv 2) YB))) (Yx YA8 (by rfl) T.iV YJr (YA (Zk YDa (pv 2) YW (Yh _)) YB)) (λ_ _=>rfl)) YB)))))⟩
   (Zd ⟨(YT (ZL K rfl YJd YJy YJx (J7 K rfl) YW (YA (pv 1) YB)))⟩))),?_⟩
  obtain⟨t,p,rfl,ht,gB⟩:=XA den;have hr:=YC4 hok;refine⟨_,U,t,_,0,_,U,U,SqT.of ht,U,_,U,t,_,2,_,U,U,SqT.of ht,U,r.2.2,U,Z6 hr.1 hr.2.1,YH (show 3<=1000 by decide),λl hl=>?_⟩;dsimp only[Yu];obtain⟨H1,eH⟩:∃H1,upd H l (.lst [.str r.1,.str ((toString r.2.2:String):Str),.str "="])=H1:=⟨_,U⟩;have s1:YI H H1:=eH ▸ YI.upd hl;have p1:YJ H1:=eH ▸ hp.upd rfl;have h1:H1 l=some (.lst (([r.1,((toString r.2.2:String):Str),"="] ++ (r.2.1.take 0).map Yj).map V.str)):=by rw[<-eH];exact YD
  rw[eH];refine⟨_,U,t,_,1,_,U,U,SqT.of (s1 _ _ ht),U,p,U,⟨_,SqT.of (s1 _ _ gB)⟩,?_⟩;refine YEH (K:=K) (a:=p) (xs:=r.2.1.map V.str) (λi σ H2=>∃v2:Option V,σ=[some (.ref t),some (.ref l),v2]/\H2 l=some (.lst (([r.1,((toString r.2.2:String):Str),"="] ++ (r.2.1.take i).map Yj).map V.str))/\YI H H2/\YJ H2) ⟨none,U,h1,s1,p1⟩ ?_ ?_ ?_
  ·rintro i σ H2 _ ⟨v2,rfl,h2,s2,p2⟩;exact SqT.of (s2 _ _ gB)
  ·rintro i y σ H2 hi ⟨v2,rfl,h2,s2,p2⟩;rw[YJG]at hi;obtain⟨z,ez,rfl⟩:=YJv.mp hi;have hil:=(YJe.mp ez).1;dsimp only[Yu];refine⟨_,U,.inl ⟨U,_,SqL.of h2⟩,_,U,YH (show 2<=1000 by decide),λq0 y_=>?_⟩;have t1:=YI.upd (o:=.lst [.str "'",.str z]) y_;refine⟨_,U,U,.inr ⟨_,U,q0,_,_,.str (Yj z),U,U,SqL.of YD,?_,l,_,_,U,U,t1 _ _ h2,?_,_,U,?_,(s2.trans t1).put hl,(p2.upd rfl).upd rfl⟩⟩
   ·unfold Yj
    by_cases e:z="' "
    ·rw[if_pos e,YI7 (by rw[e])];rfl
    ·rw[if_neg e,YI8 (λh=>e (by cases h;rfl))];rfl
   ·rw[sizeLine_eq,YI6,YJL,YI6,YJ6];show 3 + _ < _;omega
   ·rw[YD,YKE,ez];simp
  ·rintro σ H2 ⟨v2,rfl,h2,s2,p2⟩;rw[YI6,List.take_length]at h2;have hl:=Jd (m:=9) (YBN hok) (by rw[YJL,YI6];show 3 + _<=9;omega);refine⟨U,_,U," ",l,_,U,U,SqL.of h2,?_,q _ s2 p2⟩;rw[show((" ":Str)).length=1 from by decide +kernel,YKX,YJL,YI6];show _ + (3 + _)<=16777216;omega
theorem Z1:YS ["_law_script","_law_k","_law_names_here","_law_signs_here","_law_cell","_law_parts_here"] ["_law_script","_law_k"] (YG X1):=⟨U,U,U,by decide +kernel,U,by decide +kernel,by decide +kernel⟩
theorem YEn {f:Addr}{fd:FuncData} (F:Fun K "_law_rule" "_law_rule" X1 f fd) (T:Txt K mg C) (cH:Y6 P w K mg CX0 1 "_law_names" ["_law_cell"] (YG8)) (cI:Y6 P w K mg CX0 1 "_law_parts" ["_law_cell","_law_menu","_law_most"] (YG9)) (aP:Y6 P w K mg CX0 2 "_law_mixed" ["_law_script","_law_k"] (YEm K)) (cJ:Y6 P w K mg CX0 1 "_law_worth" ["_law_cell"] (YFj)) (cL:Y6 P w K mg CX0 1 "_law_signs" ["_law_cell"] (YG7)) (az:Y6 P w K mg CX0 1 "_law_cell_at" ["_law_script","_law_k"] (YF9 K)):Yv P w K mg base CX0 3 f fd ["_law_script","_law_k"] (YFl K):=by
 obtain⟨qb,pD,jo,jq,jr,jt⟩:=cH.ok;obtain⟨qd,pF,ju,jw,jx,jy⟩:=cI.ok;obtain⟨jz,iM,aX,aY,aZ,a_⟩:=aP.ok;obtain⟨qg,pG,jA,jB,jC,jD⟩:=cJ.ok;obtain⟨qi,pH,jE,jF,jG,jH⟩:=cL.ok;obtain⟨il,gF,bH,bI,bJ,bK⟩:=az.ok;refine F.ok Z1 (λvs H Q E h=>?_) (λaB A outer s H vs Q E hr h=>?_)
 ·cases h;subst_vars;rfl
 ·obtain⟨a,ns,k,rfl,hS,h0,h1,hp,q⟩:=h;refine qex ?_;refine⟨_,(YM ⟨(YO (i:=2) Z1.nd rfl (Or.inl rfl) (YK (jo base) (hr.mono (by decide)) (by rfl) jq jr jt .nil Yg (YA (YK (aX base) (hr.mono (by decide)) (by rfl) aY aZ a_ .nil Yg (YA (pv 0) (YA YC YB))) YB)))⟩
   (YM ⟨(ps_setC (N:=["_law_sign"]) (ρ:=[none]) (cl:=[]) (i:=3) Z1.nd rfl rfl rfl (Yb.plain rfl (by decide +kernel) (by decide +kernel) rfl (by simp)) (ZK K rfl (YK (jE base) (hr.mono (by decide)) (by rfl) jF jG jH .nil Yg (YA (YK (aX base) (hr.mono (by decide)) (by rfl) aY aZ a_ .nil Yg (YA (pv 0) (YA YC YB))) YB))) (λ_ _ _ _ _=>(Yf (i:=0) YA0 rfl (Or.inl rfl) (.inr rfl))) (λ_ _ _ _ _=>ZI) (λ_ _ _ _ _=>(YL Zm YW (pv 0))))⟩
   (YM ⟨(YO (i:=4) Z1.nd rfl (Or.inl rfl) (YL Y9 (YK (aX base) (hr.mono (by decide)) (by rfl) aY aZ a_ .nil Yg (YA (pv 0) (YA (pv 1) YB))) YC))⟩
   (YM ⟨(YO (i:=5) Z1.nd rfl (Or.inl rfl) (YK (ju base) (hr.mono (by decide)) (by rfl) jw jx jy .nil Yg (YA (YL Y9 (pv 4) YC) (YA (YL YEO (YL YEO (YL YEO (pv 2) (pv 3)) (Xj (YCX K rfl) (pv 2) YB7 (X5 YC))) (pv 3)) (YA (YL ZD YC (YL YAR YC (Yx YA8 (by rfl) T.iV YJr (YA (Zk JE (YL Y1 (pv 4) YC) YC (Yh _)) YB)))) YB)))))⟩
   (Zd ⟨(YT (YCO (YA (YR (YU K rfl) (pv 2) (YL ZD (YL Y1 (YL Y9 (pv 4) YC) YC) (Yx YA8 (by rfl) T.iV YJr (YA (Zk JE (YL Y1 (pv 4) YC) YC (Yh _)) YB))) (λ_ _=>rfl)) (YA (pv 5) (YA (YK (jA base) (hr.mono (by decide)) (by rfl) jB jC jD .nil Yg (YA (YK (bH base) (hr.mono (by decide)) (by rfl) bI bJ bK .nil Yg (YA (pv 0) (YA (pv 1) YB))) YB)) YB)))))⟩))))),?_⟩
  refine⟨_,U,a,ns,0,U,hS,by decide,by decide,λv0 a0 b0=>⟨_,U,a0,by omega,hp,λln nm H1 n4 nN s1 p1 pL h1'=>?_⟩⟩;refine⟨_,U,a,ns,1,U,s1.seq hS,by decide,by decide,λv1 _ _=>⟨_,U,p1,λlg c1 c2 c3 H2 g1 g2 g3 s2 p2 hlg h2=>⟨lg,U,⟨_,SqL.of h2⟩,λls hls=>?_⟩⟩⟩;refine Yw (n:=3) 0 (λk y _=>∃z,y=.str z/\ZA z=true) (ZF (SqL.of (K:=K) h2)) (λ_ _ _ _ _ h=>h) p2 hls YJW (YH (by decide)) (λτ'=>0 < τ'.length) YJW (λτ' v h=>by rw[YJl];exact h) ?_ ?_
  ·intro τ' k y H' R _ hτ hit hk hs hp' eY hR;obtain⟨c,hc,rfl⟩:∃c:Nat,JZ c=true/\y=.str ⟨#[c]⟩:=by
    have hm:=YJF hit;simp only[YJK,YJ5,or_false]at hm;rcases hm with rfl |rfl |rfl
    ·exact⟨c1,g1,U⟩
    ·exact⟨c2,g2,U⟩
    ·exact⟨c3,g3,U⟩
   exact⟨_,hτ,"'",_,U,U,YH (by show 1 + 1<=1000;decide),hR _ _ (YI.refl _) hp' ⟨_,U,YHZ hc⟩⟩
  intro ys H3 hy hP s3 p3 h3;obtain⟨sg,rfl,wj⟩:=YAY hP;have sg3:sg.length=3:=by rw[YI6]at hy;exact hy
  have vp:=(s2.trans s3) _ _ h1';have qT:=(s1.trans s2).trans s3;refine⟨_,U,_,U,a,ns,k,U,qT.seq hS,h0,by omega,λv2 a2 b2=>?_⟩;refine⟨_,_,U,U,⟨by decide,by decide⟩,?_⟩;dsimp only[Yu];refine⟨_,U,_,_,U,U,⟨by decide,by decide⟩,_,U,_,U,ln,ls,_,_,U,U,vp,h3,YH (by rw[YI6,YI6];omega),λq1 hq1=>?_⟩;have t1:=YI.upd (o:=.lst (nm.map V.str ++ sg.map V.str)) hq1;refine⟨_,U,_,U,ln,_,U,SqL.of (t1 _ _ vp),λq2 rN=>?_⟩;rw[YHo];have t2:=YI.upd (o:=.lst ((nm.take 1).map V.str)) rN;have l1:(nm.take 1).length=1:=by rw[YJ6];omega
  refine⟨q1,q2,_,_,U,U,t2 _ _ YD,YD,YH (by simp only[YJL,YI6];omega),λq3 za=>?_⟩;have t3:=YI.upd (o:=.lst (nm.map V.str ++ sg.map V.str ++ (nm.take 1).map V.str)) za;refine⟨_,U,q3,ls,_,_,U,U,YD,t3 _ _ (t2 _ _ (t1 _ _ h3)),YH (by simp only[YJL,YI6];omega),λlm zb=>?_⟩;have e3:nm.map V.str ++ sg.map V.str ++ (nm.take 1).map V.str ++ sg.map V.str=(nm ++ sg ++ nm.take 1 ++ sg).map V.str:=by simp only[YJj]
  rw[e3];have t4:=YI.upd (o:=.lst ((nm ++ sg ++ nm.take 1 ++ sg).map V.str)) zb;have sX:∀p∈nm ++ sg ++ nm.take 1 ++ sg,ZA p=true:=λp hp=>by
   rcases YJg.mp hp with hp |hp
   ·rcases YJg.mp hp with hp |hp
    ·rcases YJg.mp hp with hp |hp
     ·exact YD9 (nN p hp)
     ·exact wj p hp
    ·exact YD9 (nN p (List.mem_of_mem_take hp))
   ·exact wj p hp
  have vJ:(nm ++ sg ++ nm.take 1 ++ sg).length=11:=by simp only[YJL];omega
  have tt:=((t1.trans t2).trans t3).trans t4;obtain⟨H5,e5⟩:∃H5,upd (upd (upd (upd H3 q1 (.lst (nm.map V.str ++ sg.map V.str))) q2 (.lst ((nm.take 1).map V.str))) q3 (.lst (nm.map V.str ++ sg.map V.str ++ (nm.take 1).map V.str))) lm (.lst ((nm ++ sg ++ nm.take 1 ++ sg).map V.str))=H5:=⟨_,U⟩;have rZ:=tt _ _ vp;have wk:upd (upd (upd (upd H3 q1 (.lst (nm.map V.str ++ sg.map V.str))) q2 (.lst ((nm.take 1).map V.str))) q3 (.lst (nm.map V.str ++ sg.map V.str ++ (nm.take 1).map V.str))) lm (.lst ((nm ++ sg ++ nm.take 1 ++ sg).map V.str)) lm=some (.lst ((nm ++ sg ++ nm.take 1 ++ sg).map V.str)):=YD;have p5:YJ H5:=e5 ▸ ((((p3.upd rfl).upd rfl).upd rfl).upd rfl);have s5:=qT.trans tt;rw[e5]at rZ wk s5;rw[e5];refine⟨_,U,_,_,U,U,by decide,U,.inr ⟨_,U,_,_,U,U,.inl ⟨by decide,by decide⟩,_,_,U,U,_,lm,_,_,U,wk,by omega,by omega,?_,?_,p5,λtp ps H6 hpl hps s6 p6 uV h6=>?_⟩⟩
  ·split <;> omega
  ·split <;> omega
  dsimp only[Yu];have wu:=s5.trans s6;have hS6:=wu.seq hS;refine⟨_,U,_,U,_,_,U,U,⟨by decide,by decide⟩,_,_,U,U,by decide,_,U,_,_,U,U,by decide,U,.inr ⟨_,U,_,_,U,U,?_⟩⟩;obtain⟨y0,su,hm0⟩:=JY (xs:=nm.map V.str) (i:=v2 / 512 / 5 % 3 + if decide (V.int (v2 / 512 % 7)=V.int 0)=true then 1 else 0) (by split <;> omega) (by rw[YI6,n4];split <;> omega);obtain⟨hd,zc,rfl⟩:=YJM.mp hm0;refine⟨ln,_,_,_,U,U,SqL.of (s6 _ _ rZ),su,_,U,_,U,_,U,a,ns,k,U,hS6,h0,λc=>⟨c,U,λwz w0 w1=>⟨YH (show 3<=1000 by decide),λt ht=>?_⟩⟩⟩;refine q (.ref t) (hd,ps,wz) _ (YHa (r:=(hd,ps,wz)) (nN hd zc) ?_ (λp hp=>sX p (hps p hp)) w0 w1) (wu.trans (YI.upd ht)) (p6.upd rfl) (.tup YD (.cons (.str _) (.cons (.tup ((YI.upd ht) _ _ h6) (YX.strs _)) (.cons (.int _) .nil))));have:(ps.length:Int)<=6:=YJn hpl (by split <;> omega);show ps.length<=6;omega
end
theorem YC5 {r:Y5} (h:Yo r=true):r.2.1.length<=6/\∀p∈r.2.1,ZA p=true:=by
 unfold Yo at h;simp only[YJA,YJb]at h;exact⟨h.2.1.1,YJP.mp h.2.1.2⟩
theorem decS {x y:Str}:decide (V.str x=V.str y)=decide (x=y):=by
 by_cases h:x=y
 ·rw[YI7 h,YI7 (by rw[h])]
 ·rw[YI8 h,YI8 (λe=>h (V.str.inj e))]
theorem YI3 (z:Str):isQ z=decide (z.cps.toList[0]?=some 39):=by
 have e0:(("'":Str))=⟨#[39]⟩:=by decide +kernel
 unfold isQ;rw[e0,YJ9,YJb];have:=StrLaws.subAt_one z 39 0;unfold Txt.startswith;rw[YJA,YJb];exact this
theorem YC6 {p:Str} (h:ZA p=true):∃c,atI p.cps.toList 0=some c/\p.length<=8/\decide (V.str ⟨#[c]⟩=V.str "'")=isQ p:=by
 have h8:=YCg h;have h1:0 < p.cps.toList.length:=by
  rw[YJk];unfold ZA at h;rw[YKW]at h;rcases h with h |h
  ·unfold Jp at h;rw[YJA,YJA]at h;have:p.cps.size=2:=eq_of_beq h.1.1;omega
  ·unfold isNameS at h;rw[YJA,YJA]at h;have:1<=p.cps.size:=YJH h.1.1;omega
 have e:p.cps.toList[0]?=some p.cps.toList[0]:=YJC h1;refine⟨p.cps.toList[0],ZH (j:=0) e,h8,?_⟩;rw[YI3,e,decS];have e0:(("'":Str))=⟨#[39]⟩:=by decide +kernel
 rw[e0]
 by_cases hc:p.cps.toList[0]=39
 ·rw[YI7 (by rw[hc]),YI7 (by rw[hc])]
 ·rw[YI8 (λz=>hc (by injection z with z;simpa using z)),YI8 (λz=>hc (YJf z))]
def rdD (zs:List Str):List (Key×V):=zs.map λz=>(Sum.inr z,V.bl true)
theorem YC7 (z:Str):∀zs:List Str,(Jn (rdD zs) (Sum.inr z)).isSome=decide (z∈zs)
 |[]=>by simp[rdD,Jn]
 |y :: zs=>by
  show(Jn ((Sum.inr y,V.bl true) :: rdD zs) (Sum.inr z)).isSome=_
  by_cases e:y=z
  ·rw[J5 (by rw[e]),YI7 (by rw[e];exact YJI ..)];rfl
  ·rw[Xk (λh=>e (Sum.inr.inj h)),YC7 z zs]
   by_cases h:z∈zs
   ·rw[YI7 h,YI7 (YJD _ h)]
   ·rw[YI8 h,YI8 (λm=>(YJK.mp m).elim (λq=>e q.symm) h)]
def YB3 (zs:List Str) (z:Str):List Str:=if z∈zs then zs else zs ++ [z]
theorem YFm (zs:List Str) (z:Str):Zg (rdD zs) (Sum.inr z) (.bl true)=rdD (YB3 zs z):=by
 have keys:(rdD zs).map (·.1)=zs.map Sum.inr:=by unfold rdD;rw[YJz];rfl
 unfold YB3
 by_cases h:z∈zs
 ·rw[if_pos h];unfold Zg;have hm:(Sum.inr z:Key)∈(rdD zs).map (·.1):=by rw[keys];exact YJM.mpr ⟨z,h,U⟩
  obtain⟨q,hq,e⟩:=YJM.mp hm;rw[if_pos (List.any_eq_true.mpr ⟨q,hq,YI7 e⟩)];refine(YJ8 λq hq=>?_).trans (List.map_id _);obtain⟨y,_,rfl⟩:=YJM.mp hq;show(if (Sum.inr y:Key)=Sum.inr z then ((Sum.inr y:Key),V.bl true) else ((Sum.inr y:Key),V.bl true))=_;split <;> rfl
 ·rw[if_neg h,YD5 _ (by rw[keys];intro m;obtain⟨q,hq,e⟩:=YJM.mp m;exact h (Sum.inr.inj e ▸ hq))];unfold rdD;rw[YJj];rfl
theorem Zj {zs:List Str}{z y:Str}:y∈YB3 zs z<->y∈zs\/y=z:=by
 unfold YB3;split
 ·rename_i h
  exact⟨.inl,λq=>q.elim id λe=>e ▸ h⟩
 ·rw[YJg,YJa]
theorem YEo {zs:List Str} (h:zs.Nodup) (z:Str):(YB3 zs z).Nodup:=by
 unfold YB3;split
 ·exact h
 ·rename_i n
  exact YCC h n
def YA2 (F:List Str) (r:Y5):Bool:=r.2.1.all λp=>isQ p || decide (p∈F)
def J0 (F:List Str) (g:Ya) (k:Nat):Bool:=match g[k]? with |some r=>YA2 F r |none=>false
def Ys (F:List Str) (g:Ya) (n:Nat):List Nat:=(List.range n).filter (J0 F g)
theorem YEp (F:List Str) (g:Ya) (n:Nat):Ys F g (n + 1)=Ys F g n ++ if J0 F g n=true then [n] else []:=by
 unfold Ys;rw[List.range_succ,List.filter_append,YJt,List.filter_nil]
theorem Fr.head {g:Ya}{z:Str} (h:Fr g z):z∈g.map (·.1):=by
 cases h with
 |mk hr _=>exact YJM.mpr ⟨_,hr,U⟩
structure FI (g:Ya) (F:List Str):Prop where
 nd:F.Nodup
 fr:∀z∈F,Fr g z
def ClF (g:Ya) (F:List Str):Prop:=∀r∈g,YA2 F r=true->r.1∈F
theorem FI.len {g:Ya}{F:List Str} (h:FI g F):F.length<=g.length:=by
 have:=YAA h.nd (ys:=g.map (·.1)) λz hz=>(h.fr z hz).head
 rw[YI6]at this;exact this
theorem YBa {F:List Str}{r:Y5}:YA2 F r=true<->∀p∈r.2.1,isQ p=false->p∈F:=by
 unfold YA2;rw[YJP];constructor
 ·intro h p hp hq;have:=h p hp;rw[hq,Bool.false_or]at this;exact YJH this
 ·intro h p hp;cases hq:isQ p with
  |true=>rfl
  |false=>rw[Bool.false_or];exact YI7 (h p hp hq)
theorem FI.ripe {g:Ya}{F:List Str} (h:FI g F) {r:Y5} (e:YA2 F r=true):Ripe g r:=λp hp hq=>h.fr p (YBa.mp e p hp hq)
theorem FI.add {g:Ya}{F:List Str} (h:FI g F) {z:Str} (hz:Fr g z):FI g (YB3 F z):=⟨YEo h.nd z,λy hy=>(Zj.mp hy).elim (h.fr y) λe=>e ▸ hz⟩
theorem fr_in {g:Ya}{F:List Str} (c:ClF g F) {z:Str} (h:Fr g z):z∈F:=by
 induction h with
 |@mk r hr _ ih=>exact c r hr (YBa.mpr λp hp hq=>ih p hp hq)
theorem FI.iff {g:Ya}{F:List Str} (h:FI g F) (c:ClF g F) {r:Y5}:YA2 F r=true<->Ripe g r:=⟨h.ripe,λhr=>YBa.mpr λp hp hq=>fr_in c (hr p hp hq)⟩
structure Grw (F F':List Str):Prop where
 sub:∀z∈F,z∈F'
 or:F'=F\/F.length < F'.length
theorem Grw.refl (F:List Str):Grw F F:=⟨λ_ h=>h,.inl rfl⟩
theorem Grw.add {F F':List Str} (h:Grw F F') (z:Str):Grw F (YB3 F' z):=by
 refine⟨λy hy=>Zj.mpr (.inl (h.sub y hy)),?_⟩
 by_cases hz:z∈F'
 ·rw[show YB3 F' z=F' from if_pos hz];exact h.or
 ·rw[show YB3 F' z=F' ++ [z] from if_neg hz,YJL];rcases h.or with e |e
  ·exact .inr (by rw[e];show F.length < F.length + 1;omega)
  ·exact .inr (by show F.length < F'.length + 1;omega)
theorem JV {F:List Str}{g:Ya}{n k:Nat}:k∈Ys F g n<->k < n/\J0 F g k=true:=by
 unfold Ys;rw[YKK,YKG]
theorem Z9 {F:List Str}{g:Ya}{k:Nat}:J0 F g k=true<->∃r,g[k]?=some r/\YA2 F r=true:=by
 unfold J0;cases g[k]? with
 |none=>
  constructor
  ·intro h;cases h
  ·rintro⟨_,h,_⟩;cases h
 |some r=>
  constructor
  ·intro h;exact⟨r,U,h⟩
  ·rintro⟨r',e,h⟩;cases e;exact h
theorem turn_cl {g:Ya}{F F':List Str} (gr:Grw F F') (all:∀k∈Ys F g g.length,∀r,g[k]?=some r->r.1∈F') (e:F.length=F'.length):ClF g F':=by
 have eF:F'=F:=gr.or.elim id λh=>absurd e (by omega)
 subst eF;intro r hr hb;obtain⟨k,hk,ek⟩:=YJu.mp hr;have er:g[k]?=some r:=by rw[YJC hk,ek]
 exact all k (JV.mpr ⟨hk,Z9.mpr ⟨r,er,hb⟩⟩) r er
structure RI (g:Ya) (z0:Str) (R:List Str):Prop where
 nd:R.Nodup
 rc:∀z∈R,Rc g z0 z
theorem RI.add {g:Ya}{z0:Str}{R:List Str} (h:RI g z0 R) {z:Str} (hz:Rc g z0 z):RI g z0 (YB3 R z):=⟨YEo h.nd z,λy hy=>(Zj.mp hy).elim (h.rc y) λe=>e ▸ hz⟩
def ClR (g:Ya) (F R:List Str):Prop:=∀r∈g,YA2 F r=true->r.1∈R->∀p∈r.2.1,isQ p=false->p∈R
theorem rc_in {g:Ya}{F R:List Str}{z0:Str} (hF:FI g F) (cF:ClF g F) (c:ClR g F R) (h0:Fr g z0->z0∈R) {z:Str} (h:Rc g z0 z):z∈R:=by
 induction h with
 |start h=>exact h0 h
 |step hr mY _ hp hq ih=>exact c _ hr ((hF.iff cF).mpr mY) ih _ hp hq
theorem YI4 {g:Ya}{F R R':List Str} (gr:Grw R R') (all:∀k∈Ys F g g.length,∀r,g[k]?=some r->r.1∈R->∀p∈r.2.1,isQ p=false->p∈R') (e:R.length=R'.length):ClR g F R':=by
 have eR:R'=R:=gr.or.elim id λh=>absurd e (by omega)
 subst eR;intro r hr hb h1 p hp hq;obtain⟨k,hk,ek⟩:=YJu.mp hr;have er:g[k]?=some r:=by rw[YJC hk,ek]
 exact all k (JV.mpr ⟨hk,Z9.mpr ⟨r,er,hb⟩⟩) r er h1 p hp hq
structure RS (g:Ya) (R:List Str):Prop where
 nd:R.Nodup
 hd:∀z∈R,z∈g.map (·.1)
 all:∀r0 Ye,g=r0 :: Ye->RI g r0.1 R/\(Fr g r0.1->r0.1∈R)
theorem RS.len {g:Ya}{R:List Str} (h:RS g R):R.length<=g.length:=by
 have:=YAA h.nd (ys:=g.map (·.1)) h.hd;rw[YI6]at this;exact this
theorem RS.add {g:Ya}{R:List Str} (h:RS g R) {r:Y5}{p:Str} (hr:r∈g) (rp:Ripe g r) (h1:r.1∈R) (hp:p∈r.2.1) (hq:isQ p=false):RS g (YB3 R p):=by
 refine⟨YEo h.nd p,λy hy=>(Zj.mp hy).elim (h.hd y) λe=>e ▸ (rp p hp hq).head,λr0 Ye e=>?_⟩;obtain⟨a,b⟩:=h.all r0 Ye e;exact⟨a.add (.step hr rp (a.rc _ h1) hp hq),λf=>Zj.mpr (.inl (b f))⟩
theorem RS.none {g:Ya} (h:∀r0 Ye,g=r0 :: Ye->¬Fr g r0.1):RS g []:=⟨YKY,(λ_ h=>nomatch h),λr0 Ye e=>⟨⟨YKY,(λ_ h=>nomatch h)⟩,λf=>absurd f (h r0 Ye e)⟩⟩
theorem YFn (z:Str):([z]:List Str).Nodup:=by simp
theorem RS.one {g:Ya}{r0:Y5}{Ye:Ya} (e:g=r0 :: Ye) (h:Fr g r0.1):RS g [r0.1]:=by
 refine⟨YFn r0.1,λz hz=>?_,λr1 lX e1=>?_⟩
 ·rw[YJa.mp hz];exact h.head
 ·rw[e]at e1;cases e1;exact⟨⟨YFn r0.1,λz hz=>by rw[YJa.mp hz];exact .start h⟩,λ_=>YJI ..⟩
def YBb (g:Ya) (R:List Str) (k:Nat):Bool:=match g[k]? with |some r=>decide (r.1∈R) |none=>false
theorem YFo {g:Ya}{F R:List Str} (hF:FI g F) (cF:ClF g F) (c:ClR g F R) (hR:∀r0 Ye,g=r0 :: Ye->RI g r0.1 R/\(Fr g r0.1->r0.1∈R)):Xc g ((Ys F g g.length).filter (YBb g R)):=by
 refine⟨?_,λk=>?_⟩
 ·unfold Ys;exact(List.pairwise_lt_range.filter _).filter _
 ·rw[YKK,JV,Z9];constructor
  ·rintro⟨⟨hk,r,er,hb⟩,hh⟩;unfold YBb at hh;rw[er]at hh;have hh:r.1∈R:=YJH hh;cases g with
   |nil=>exact absurd hk (YKS k)
   |cons r0 Ye=>exact⟨r,r0,Ye,U,er,hF.ripe hb,(hR r0 Ye rfl).1.rc _ hh⟩
  ·rintro⟨r,r0,Ye,e,er,mY,zf⟩;refine⟨⟨(YJe.mp er).1,r,er,(hF.iff cF).mpr mY⟩,?_⟩;unfold YBb;rw[er];exact YI7 (rc_in hF cF c (hR r0 Ye e).2 zf)
abbrev Ju:Stmt:=top 113
abbrev JD:Stmt:=top 114
theorem Z2:(["_law_part","_law_fruitful"]:List Str).Nodup:=by decide +kernel
theorem Zb:(["_law_k","_law_reached","_law_rules"]:List Str).Nodup:=by decide +kernel
theorem XE {H:Hp}{xs:List V}{g:Ya}{i:Nat}{r:Y5} (d:YX H xs (g.map Yp)) (e:g[i]?=some r):∃t p,xs[i]?=some (.ref t)/\H t=some (.tup [.str r.1,.ref p,.int r.2.2])/\H p=some (.tup (r.2.1.map V.str)):=by
 obtain⟨v,ev,dv⟩:=d.getD (i:=i) (d:=Yp r) (by rw[YJG,e];rfl);obtain⟨t,p,rfl,ht,hp⟩:=XA dv;exact⟨t,p,ev,ht,hp⟩
theorem bools83 {ys:List V}{ps:List Str}{f:Str->Bool} (hl:ys.length=ps.length) (h:∀(j:Nat) (y:V),ys[j]?=some y->∃p,ps[j]?=some p/\y=.bl (f p)):ys=(ps.map f).map V.bl:=by
 refine List.ext_getElem (by rw[YI6,YI6,hl]) λj h1 h2=>?_
 obtain⟨k,ek,e⟩:=h j _ (YJC h1);rw[List.getElem_map,List.getElem_map,e];rw[YJC (by omega)]at ek;rw[YJf ek]
inductive YEB (vs:List V) (H:Hp) (Q:VK):Prop where
 |mk (l d:Addr) (xs:List V) (g:Ya) (F:List Str) (aQ:vs=[.ref l,.ref d]) (aR:H l=some (.lst xs)) (bu:YX H xs (g.map Yp)) (cM:Yz g=true) (dR:H d=some (.dK (rdD F))) (lO:YJ H) (sr:∀(l':Addr) (H':Hp),YI H H'->YJ H'->H l'=none->H' l'=some (.lst ((Ys F g g.length).map λk:Nat=>V.int (k:Int)))->Q (.ref l') H'):YEB vs H Q
def YFp:Sp:=λvs H Q E_=>YEB vs H Q
inductive YBq (vs:List V) (H:Hp) (Q:VK):Prop where
 |mk (l:Addr) (xs:List V) (g:Ya) (aQ:vs=[.ref l]) (aR:H l=some (.lst xs)) (bu:YX H xs (g.map Yp)) (cM:Yz g=true) (dR:YJ H) (lO:∀(l':Addr) (ks:List Nat) (H':Hp),Xc g ks->YI H H'->YJ H'->H' l'=some (.lst (ks.map λk:Nat=>V.int (k:Int)))->Q (.ref l') H'):YBq vs H Q
def YC8:Sp:=λvs H Q E_=>YBq vs H Q
structure Inv1 (H:Hp) (g:Ya) (l d:Addr) (σ:L2.St) (H2:Hp):Prop where
 ex:∃(F:List Str) (m:Int) (v3:Option V),σ=[some (.ref l),some (.ref d),some (.int m),v3,none,none]/\H2 d=some (.dK (rdD F))/\YI H H2/\YJ H2/\FI g F/\-1<=m/\m<=F.length/\(m=F.length->ClF g F)
structure Inv2 (H:Hp) (g:Ya) (l d dr:Addr) (F0:List Str) (σ:L2.St) (H2:Hp):Prop where
 ex:∃(R:List Str) (m:Int) (v3 v5:Option V),σ=[some (.ref l),some (.ref d),some (.int m),v3,some (.ref dr),v5]/\H2 d=some (.dK (rdD F0))/\H2 dr=some (.dK (rdD R))/\YI H H2/\YJ H2/\RS g R/\-1<=m/\m<=R.length/\(m=R.length->ClR g F0 R)
def mu83 (g:Ya) (σ:L2.St):Nat:=match σ[2]? with
 |some (some (V.int m))=>((g.length:Int) + 1 - m).toNat
 |_=>0
section
variable {P:Program}{w:World}{K:W.Frag}{mg:Str->Option Value}{base:Heap}{C:Adr}
theorem XY:YS ["_law_rules","_law_fruitful","_law_some","_law_k"] ["_law_rules","_law_fruitful"] (YG Ju):=⟨U,U,U,by decide +kernel,U,by decide +kernel,by decide +kernel⟩
theorem YEq {f:Addr}{fd:FuncData} (F:Fun K "_law_ripe" "_law_ripe" Ju f fd) (T:Txt K mg C):Yv P w K mg base CX0 1 f fd ["_law_rules","_law_fruitful"] (YFp):=by
 refine F.ok XY (λvs H Q E h=>?_) (λaB A outer s H vs Q E hr h=>?_)
 ·cases h;subst_vars;rfl
 ·obtain⟨l,d,xs,g,F',rfl,hl,dxs,hg,hd,hp,q⟩:=h;have hu:=YBg hr;have hU:=hr.units;refine qex ?_;refine⟨_,(YM (YF7 (i:=2) XY.nd rfl (Or.inl rfl) (YCd YCc))
   (YM ⟨(Z3 PassesOwn.never rfl (J3 rfl T.dH (YA (YQ (Yc K rfl) (by rfl) T.aH YJE (YA (pv 0) YB)) YB)) (Yf (i:=3) XY.nd rfl (Or.inl rfl)) (YF (Yt (ZC (X7 (YQ (JS K rfl rfl) (by rfl) T.iW YJs (YA (ZJ (N:=["_law_part","_law_fruitful"]) (ρ:=[none,some 1]) rfl (Yb.closes ["_law_rules","_law_fruitful","_law_some","_law_k"] (YG Ju).names rfl rfl rfl rfl (by decide +kernel) (by decide +kernel) (λx h=>J4 h) (by decide +kernel) rfl (by decide +kernel)) (X8 K rfl (YR (YZ K rfl) (YR (YU K rfl) (pv 0) (pv 3) (λ_ _=>rfl)) YC (λ_ _=>rfl))) (λ_ _ _ _ _=>(Yf (i:=0) Z2 rfl (Or.inl rfl) (.inr rfl))) (λ_ _ _ _ _=>ZI) (λ_ _ _ _ _=>(pe_or (Zk JE (YR Jv (pv 0) YC (λ_ _=>rfl)) YW (Yh _)) (Zv (pe_cmp (YCS hu (pv 0) (pv 1))))))) YB)))) (YF (JO (ZL K rfl YJi YJ4 YJ3 Z4 (pv 2) (YA (pv 3) YB)))) YY)))⟩
   (Zd ⟨(YT (pv 2))⟩))),?_⟩
  have lr:xs.length=g.length:=by rw[dxs.len,YI6]
  have m8:=JR hg;refine⟨YJh _,λlo hlo=>?_⟩;dsimp only[Yu];have s1:=YI.upd (o:=.lst []) hlo;have p1:YJ (upd H lo (.lst [])):=hp.upd rfl;have h1:upd H lo (.lst []) lo=some (.lst ((Ys F' g 0).map λk:Nat=>V.int (k:Int))):=YD;revert s1 p1 h1;generalize upd H lo (.lst [])=H1;intro s1 p1 h1;refine⟨_,U,l,xs,U,.inl (SqL.of (s1 _ _ hl)),_,U,(by omega),(by omega),?_⟩;refine X4 (lo:=0) (n:=((xs.length:Nat):Int).toNat) (λi σ H2=>∃v3:Option V,σ=[some (.ref l),some (.ref d),some (.ref lo),v3]/\H2 lo=some (.lst ((Ys F' g i).map λk:Nat=>V.int (k:Int)))/\YI H H2/\YJ H2) ⟨none,U,h1,s1,p1⟩ ?_ ?_
  ·rintro i σ H2 hi ⟨v3,rfl,h2,s2,p2⟩;have hi':i < g.length:=by omega
   have er:g[i]?=some g[i]:=YJC hi';obtain⟨r,hr'⟩:∃r,g[i]=r:=⟨_,U⟩;rw[hr']at er;obtain⟨tr,pp,ex,n_,gB⟩:=XE dxs er;have okr:=YJP.mp (ZP hg) r (YJF er);obtain⟨r6,rp⟩:=YC5 okr;have ei:(0:Int) + (i:Int)=(i:Int):=by omega
   have ww:=s2 _ _ gB;dsimp only[Yu];refine⟨p2,_,U,_,U,l,xs,_,_,U,U,SqL.of (s2 _ _ hl),by rw[ei];exact ZH ex,tr,_,1,_,U,U,SqT.of (s2 _ _ n_),U,pp,U,⟨_,SqT.of ww⟩,λlc nZ=>?_⟩;refine Yw (n:=(r.2.1.map V.str).length) 0 (λj y _=>∃p,r.2.1[j]?=some p/\y=.bl (isQ p || decide (p∈F'))) (YBF (SqT.of (K:=K) ww)) (λ_ _ _ _ _ h=>h) p2 nZ (show 0 < 2 by decide) (YH (by rw[YI6];omega)) (λτ'=>∃v,τ'=[v,some (.ref d)]) ⟨_,U⟩ (by rintro τ' v ⟨v',rfl⟩;exact⟨_,U⟩) ?_ ?_
   ·rintro τ' j y H' R ⟨v,rfl⟩ hτ hit hj hs' hp' eY hR;rw[YJG]at hit;obtain⟨p,ep,rfl⟩:=YJv.mp hit;obtain⟨c,hc,hlen,rO⟩:=YC6 (rp p (YJF ep));refine⟨_,hτ,p,0,c,U,U,YH (by omega),hc,U,_,U,?_⟩;rw[rO];cases hq:isQ p with
    |true=>exact ZO (hR _ _ (YI.refl _) hp' ⟨p,ep,by rw[hq];rfl⟩)
    |false=>
     refine ZB ⟨_,hτ,_,U,d,_,U,JX.k (k:=Sum.inr p) (hs' _ _ (s2 _ _ hd)),?_⟩;rw[YC7];exact hR _ _ (YI.refl _) hp' ⟨p,ep,by rw[hq];rfl⟩
   ·intro ys H5 hy hP zg yV vh;have e5:ys=(r.2.1.map λp=>isQ p || decide (p∈F')).map V.bl:=bools83 (hy.trans (by rw[YI6])) hP;subst e5;refine⟨lc,_,U,SqL.of vh,zg,_,U,?_⟩;have ea:(r.2.1.map λp=>isQ p || decide (p∈F')).all id=J0 F' g i:=by
     unfold J0 YA2;rw[er,List.all_map];rfl
    rw[ea];have es:=YEp F' g i;cases hb:J0 F' g i with
    |true=>
     rw[hb,if_pos rfl]at es;refine ZO ⟨_,U,.inl ⟨U,_,SqL.of h2⟩,_,U,lo,_,_,U,U,h2,?_,_,U,?_,s2.put hlo,p2.upd rfl⟩
     ·rw[sizeLine_eq,YI6];unfold Ys;have:=List.length_filter_le (J0 F' g) (List.range i);rw[List.length_range]at this;omega
     ·rw[YD,es,YJj,ei];rfl
    |false=>
     rw[hb,if_neg nofun,List.append_nil]at es;exact ZB ⟨_,U,by rw[es];exact h2,s2,p2⟩
  ·rintro σ H2 ⟨v3,rfl,h2,s2,p2⟩;refine⟨_,U,q lo H2 s2 p2 hlo ?_⟩;rw[h2];have e:((xs.length:Nat):Int).toNat=g.length:=by omega
   rw[e]
theorem Yq:YS ["_law_rules","_law_fruitful","_law_many","_law_k","_law_reached","_law_part"] ["_law_rules"] (YG JD):=⟨U,U,U,by decide +kernel,U,by decide +kernel,by decide +kernel⟩
theorem YC9 {f:Addr}{fd:FuncData} (F:Fun K "_law_needed" "_law_needed" JD f fd) (T:Txt K mg C) (dj:Y6 P w K mg CX0 1 "_law_ripe" ["_law_rules","_law_fruitful"] (YFp)):Yv P w K mg base CX0 2 f fd ["_law_rules"] (YC8):=by
 obtain⟨qL,qj,dm,dq,du,dB⟩:=dj.ok;refine F.ok Yq (λvs H Q E h=>?_) (λaB A outer s H vs Q E hr h=>?_)
 ·cases h;subst_vars;rfl
 ·obtain⟨l,xs,g,rfl,hl,dxs,hg,hp,q⟩:=h;have hu:=YBg hr;have hU:=hr.units;refine qex ?_;refine⟨_,(YM ⟨(YO (i:=1) Yq.nd rfl (Or.inl rfl) Xm)⟩
   (YM ⟨(YO (i:=2) Yq.nd rfl (Or.inl rfl) (pe_un YFu YC))⟩
   (YM ⟨(YAf PassesOwn.never (Yl YCM (pv 2) (YQ YAD (by rfl) T.aH YJE (YA (pv 1) YB)) (Yh _)) (YE (YO (i:=2) Yq.nd rfl (Or.inl rfl) (YQ YAD (by rfl) T.aH YJE (YA (pv 1) YB)))
   (YF (Z3 PassesOwn.never rfl (ZK K rfl (YK (dm base) (hr.mono (by decide)) (by rfl) dq du dB .nil Yg (YA (pv 0) (YA (pv 1) YB)))) (Yf (i:=3) Yq.nd rfl (Or.inl rfl)) (YF (XH hu (pv 1) (YR (YZ K rfl) (YR (YU K rfl) (pv 0) (pv 3) (λ_ _=>rfl)) YC (λ_ _=>rfl)) Zu rfl))))))⟩
   (YM ⟨(YO (i:=4) Yq.nd rfl (Or.inr rfl) Xm)⟩
   (YM ⟨(Yt (PW.pt (YEF (Yl (YCa K rfl hU) (pv 0) (JW YB) (Yh _)) (YB5 (Xe (YCS hu (YR (YZ K rfl) (YR (YU K rfl) (pv 0) YC (λ_ _=>rfl)) YC (λ_ _=>rfl)) (pv 1)))))) (YF (XH hu (pv 4) (YR (YZ K rfl) (YR (YU K rfl) (pv 0) YC (λ_ _=>rfl)) YC (λ_ _=>rfl)) Zu rfl)) YY)⟩
   (YM ⟨(YO (i:=2) Yq.nd rfl (Or.inl rfl) (pe_un YFu YC))⟩
   (YM ⟨(YAf PassesOwn.never (Yl YCM (pv 2) (YQ YAD (by rfl) T.aH YJE (YA (pv 4) YB)) (Yh _)) (YE (YO (i:=2) Yq.nd rfl (Or.inl rfl) (YQ YAD (by rfl) T.aH YJE (YA (pv 4) YB)))
   (YF (Z3 PassesOwn.never rfl (ZK K rfl (YK (dm base) (hr.mono (by decide)) (by rfl) dq du dB .nil Yg (YA (pv 0) (YA (pv 1) YB)))) (Yf (i:=3) Yq.nd rfl (Or.inl rfl)) (YF (Yt (Xe (YCS hu (YR (YZ K rfl) (YR (YU K rfl) (pv 0) (pv 3) (λ_ _=>rfl)) YC (λ_ _=>rfl)) (pv 4))) (YF (Z3 PassesOwn.never rfl (X8 K rfl (YR (YZ K rfl) (YR (YU K rfl) (pv 0) (pv 3) (λ_ _=>rfl)) YC (λ_ _=>rfl))) (Yf (i:=5) Yq.nd rfl (Or.inl rfl)) (YF (Yt (Yl YDa (YR Jv (pv 5) YC (λ_ _=>rfl)) YW (Yh _)) (YF (XH hu (pv 4) (pv 5) Zu rfl)) YY)))) YY))))))⟩
   (Zd ⟨(YT (ZJ (N:=["_law_k","_law_reached","_law_rules"]) (ρ:=[none,some 4,some 0]) rfl (Yb.closes ["_law_rules","_law_fruitful","_law_many","_law_k","_law_reached","_law_part"] (YG JD).names rfl rfl rfl rfl (by decide +kernel) (by decide +kernel) (λx h=>J4 h) (by decide +kernel) rfl (by decide +kernel)) (ZK K rfl (YK (dm base) (hr.mono (by decide)) (by rfl) dq du dB .nil Yg (YA (pv 0) (YA (pv 1) YB)))) (λ_ _ _ _ _=>(Yf (i:=0) Zb rfl (Or.inl rfl) (.inr rfl))) (λ_ _ _ _ _=>(pts_one (Xe (YCS hu (YR (YZ K rfl) (YR (YU K rfl) (pv 2) (pv 0) (λ_ _=>rfl)) YC (λ_ _=>rfl)) (pv 1))))) (λ_ _ _ _ _=>(pv 0))))⟩)))))))),?_⟩
  have lr:xs.length=g.length:=by rw[dxs.len,YI6]
  have m8:=JR hg;refineλd hd=>?_
  dsimp only[Yu];have s1:=YI.upd (o:=.dK []) hd;have p1:YJ (upd H d (.dK [])):=hp.upd rfl;have h1:upd H d (.dK []) d=some (.dK (rdD [])):=YD;revert s1 p1 h1;generalize upd H d (.dK [])=H1;intro s1 p1 h1;refine⟨1,U,?_⟩;dsimp only[Yu];refine Zp (λσ H2=>∃(F:List Str) (m:Int) (v3:Option V),σ=[some (.ref l),some (.ref d),some (.int m),v3,none,none]/\H2 d=some (.dK (rdD F))/\YI H H2/\YJ H2/\FI g F/\ClF g F) ?_ λfin=>?_
  rotate_left
  ·refine YCL (Inv1 H g l d) (λσ _=>mu83 g σ) ⟨[],-1,none,U,h1,s1,p1,⟨YKY,λz h=>nomatch h⟩,by omega,by show(-1:Int)<=0;omega,λe=>absurd e (by show ¬(-1:Int)=0;omega)⟩ ?_ ?_
   ·rintro σ H2 ⟨F0,m,v3,rfl,h2,s2,p2,fi,m0,m1,mc⟩;refine⟨_,U,_,U,d,_,U,.inl h2,_,_,U,U,_,U,?_⟩;have el:(rdD F0).length=F0.length:=by unfold rdD;rw[YI6]
    have fl:=fi.len;rw[el];refine Zt (λhlt=>?_) λhlt=>?_
    rotate_left
    ·have hlt:¬m < (F0.length:Int):=λh=>hlt (YI7 h)
     exact fin _ _ ⟨F0,m,v3,U,h2,s2,p2,fi,mc (by omega)⟩
    have hlt:=YJH hlt;refine⟨_,U,d,_,U,.inl h2,?_⟩;rw[el];dsimp only[Yu];refine⟨_,U,_,U,l,d,xs,g,F0,U,s2 _ _ hl,dxs.same s2,hg,h2,p2,λl' H3 s3 p3 nl h3=>⟨l',U,⟨_,SqL.of h3⟩,?_⟩⟩;refine YCK (K:=K) (a:=l') (xs:=(Ys F0 g g.length).map λk:Nat=>V.int (k:Int)) (λi σ H4=>∃(F1:List Str) (v3:Option V),σ=[some (.ref l),some (.ref d),some (.int (F0.length:Int)),v3,none,none]/\H4 d=some (.dK (rdD F1))/\YI H H4/\YJ H4/\H4 l'=some (.lst ((Ys F0 g g.length).map λk:Nat=>V.int (k:Int)))/\FI g F1/\Grw F0 F1/\∀j,j < i->∀k,(Ys F0 g g.length)[j]?=some k->∀r,g[k]?=some r->r.1∈F1) ⟨F0,v3,U,s3 _ _ h2,s2.trans s3,p3,h3,fi,Grw.refl F0,λj hj=>absurd hj (YKS j)⟩ ?_ ?_ ?_
    ·rintro i σ H4 _ ⟨F1,w3,rfl,h4,s4,p4,qR,_⟩;exact SqL.of qR
    ·rintro i y σ H4 hi ⟨F1,w3,rfl,h4,s4,p4,qR,ud,gr,all⟩;rw[YJG]at hi;obtain⟨k,ek,rfl⟩:=YJv.mp hi;obtain⟨hk,mY⟩:=JV.mp (YJF ek);obtain⟨r,er,hb⟩:=Z9.mp mY;obtain⟨tr,pp,ex,n_,gB⟩:=XE dxs er;have nld:l'≠d:=λz=>by rw[z,h4]at qR;cases qR
     dsimp only[Yu];refine⟨_,U,_,U,_,U,l,xs,_,_,U,U,SqL.of (s4 _ _ hl),ZH ex,tr,_,0,_,U,U,SqT.of (s4 _ _ n_),U,d,_,U,YAU.k (k:=Sum.inr r.1) h4 ?_,?_⟩
     ·have:=ud.len;unfold rdD;rw[YI6,sizeLine_eq];omega
     rw[YFm];refine⟨_,_,U,YD,s4.put hd,p4.upd rfl,by rw[YN nld];exact qR,ud.add (.mk (YJF er) (fi.ripe hb)),gr.add r.1,λj hj k' qw r' lQ=>?_⟩;rcases YKD.mp hj with hj |rfl
     ·exact Zj.mpr (.inl (all j hj k' qw r' lQ))
     ·rw[ek]at qw;cases qw;rw[er]at lQ;cases lQ;exact Zj.mpr (.inr rfl)
    ·rintro σ H4 ⟨F1,w3,rfl,h4,s4,p4,qR,ud,gr,all⟩;rw[YI6]at all;have f1:=ud.len;have g1:F0.length<=F1.length:=gr.or.elim (λe=>by rw[e];exact YJB _) Nat.le_of_lt;refine⟨⟨F1,(F0.length:Int),w3,U,h4,s4,p4,ud,by omega,by omega,λe=>turn_cl gr (λk hk r er=>?_) (by omega)⟩,?_⟩
     ·obtain⟨j,hj,ej⟩:=YJu.mp hk;exact all j hj k (by rw[YJC hj,ej]) r er
     ·show((g.length:Int) + 1 - (F0.length:Int)).toNat < ((g.length:Int) + 1 - m).toNat;omega
   ·rintro σ H' Q1 Q2 hQ ⟨v,e,v1,e1,a,kvs,ea,rd,i,j,ei,ej,k,ek,q⟩;exact⟨v,e,v1,e1,a,kvs,ea,rd,i,j,ei,ej,k,ek,hQ _ _ q⟩
  rintro σ H2 ⟨F0,m,v3,rfl,h2,s2,p2,fi,cl⟩;refineλdr ue=>?_
  dsimp only[Yu];have t3:=YI.upd (o:=.dK []) ue;have s3:=s2.trans t3;have p3:YJ (upd H2 dr (.dK [])):=p2.upd rfl;have r3:upd H2 dr (.dK []) dr=some (.dK (rdD [])):=YD;have d3:=t3 _ _ h2;have nr:H dr=none:=s2.free ue;have ndr:d≠dr:=λz=>by rw[z]at h2;rw[h2]at ue;cases ue
  revert s3 p3 r3 d3;generalize upd H2 dr (.dK [])=H3;intro s3 p3 r3 d3;clear t3 h2 s2 p2 ue;refine Zp (λσ H4=>∃R:List Str,σ=[some (.ref l),some (.ref d),some (.int m),v3,some (.ref dr),none]/\H4 d=some (.dK (rdD F0))/\H4 dr=some (.dK (rdD R))/\YI H H4/\YJ H4/\RS g R) ?_ λfin=>?_
  rotate_left
  ·refine⟨_,U,YJh _,λle hle=>⟨_,_,.lst (.inl ((YI.upd hle) _ _ (s3 _ _ hl))) (dxs.same (s3.trans (YI.upd hle))),.lst (.inl YD) .nil,YGp g,U,YFE g,_,U,?_⟩⟩;have t4:=YI.upd (o:=.lst []) hle;have s4:=s3.trans t4;have p4:YJ (upd H3 le (.lst [])):=p3.upd rfl;have d4:=t4 _ _ d3;have r4:=t4 _ _ r3;revert s4 p4 d4 r4;generalize upd H3 le (.lst [])=H4;intro s4 p4 d4 r4;clear t4;cases eg:g with
   |nil=>
    refine ZB (ZB (fin _ _ ⟨[],U,d4,r4,s4,p4,RS.none λr0 Ye e=>by rw[eg]at e;cases e⟩))
   |cons r0 Ye=>
    have er:g[0]?=some r0:=by rw[eg];rfl
    obtain⟨tr,pp,ex,n_,gB⟩:=XE dxs er;refine ZO ⟨_,U,l,xs,0,_,U,U,SqL.of (s4 _ _ hl),ZH (j:=0) ex,tr,_,0,_,U,U,SqT.of (s4 _ _ n_),U,_,U,d,_,U,JX.k (k:=Sum.inr r0.1) d4,_,U,?_⟩;rw[YC7];refine Zt (λhm=>?_) λhm=>?_
    ·have hm:=YJH hm;refine⟨_,U,_,U,l,xs,0,_,U,U,SqL.of (s4 _ _ hl),ZH (j:=0) ex,tr,_,0,_,U,U,SqT.of (s4 _ _ n_),U,dr,_,U,YAU.k (k:=Sum.inr r0.1) r4 (by rw[sizeLine_eq];show 0 < _;omega),?_⟩;exact fin _ _ ⟨[r0.1],U,by rw[YN ndr];exact d4,YD,s4.put nr,p4.upd rfl,RS.one eg (fi.fr _ hm)⟩
    ·have hm:¬r0.1∈F0:=λh=>hm (YI7 h)
     exact fin _ _ ⟨[],U,d4,r4,s4,p4,RS.none λr1 lX e f=>by rw[eg]at e;cases e;exact hm (fr_in cl f)⟩
  rintro σ H4 ⟨R0,rfl,d4,r4,s4,p4,rs⟩;refine⟨1,U,?_⟩;dsimp only[Yu];clear s3 p3 r3 d3 s1 p1 h1;refine Zp (λσ H5=>∃(R:List Str) (m:Int) (v3 v5:Option V),σ=[some (.ref l),some (.ref d),some (.int m),v3,some (.ref dr),v5]/\H5 d=some (.dK (rdD F0))/\H5 dr=some (.dK (rdD R))/\YI H H5/\YJ H5/\RS g R/\ClR g F0 R) ?_ λfin=>?_
  rotate_left
  ·refine YCL (Inv2 H g l d dr F0) (λσ _=>mu83 g σ) ⟨R0,-1,v3,none,U,d4,r4,s4,p4,rs,by omega,by omega,λe=>absurd e (by omega)⟩ ?_ ?_
   ·rintro σ H5 ⟨R,m,w3,w5,rfl,d5,r5,s5,p5,uf,m0,m1,mc⟩;refine⟨_,U,_,U,dr,_,U,.inl r5,_,_,U,U,_,U,?_⟩;have el:(rdD R).length=R.length:=by unfold rdD;rw[YI6]
    have fl:=uf.len;rw[el];refine Zt (λhlt=>?_) λhlt=>?_
    rotate_left
    ·have hlt:¬m < (R.length:Int):=λh=>hlt (YI7 h)
     exact fin _ _ ⟨R,m,w3,w5,U,d5,r5,s5,p5,uf,mc (by omega)⟩
    have hlt:=YJH hlt;refine⟨_,U,dr,_,U,.inl r5,?_⟩;rw[el];dsimp only[Yu];refine⟨_,U,_,U,l,d,xs,g,F0,U,s5 _ _ hl,dxs.same s5,hg,d5,p5,λl' H6 s6 p6 nl h6=>⟨l',U,⟨_,SqL.of h6⟩,?_⟩⟩;have nlr:l'≠dr:=λz=>by have:=s6 _ _ r5;rw[<-z,h6]at this;cases this
    refine YCK (K:=K) (a:=l') (xs:=(Ys F0 g g.length).map λk:Nat=>V.int (k:Int)) (λi σ H7=>∃(R1:List Str) (u3 u5:Option V),σ=[some (.ref l),some (.ref d),some (.int (R.length:Int)),u3,some (.ref dr),u5]/\H7 d=some (.dK (rdD F0))/\H7 dr=some (.dK (rdD R1))/\YI H H7/\YJ H7/\H7 l'=some (.lst ((Ys F0 g g.length).map λk:Nat=>V.int (k:Int)))/\RS g R1/\Grw R R1/\∀j,j < i->∀k,(Ys F0 g g.length)[j]?=some k->∀r,g[k]?=some r->r.1∈R->∀p∈r.2.1,isQ p=false->p∈R1) ⟨R,w3,w5,U,s6 _ _ d5,s6 _ _ r5,s5.trans s6,p6,h6,uf,Grw.refl R,λj hj=>absurd hj (YKS j)⟩ ?_ ?_ ?_
    ·rintro i σ H7 _ ⟨R1,u3,u5,rfl,_,_,_,_,ug,_⟩;exact SqL.of ug
    ·rintro i y σ H7 hi ⟨R1,u3,u5,rfl,d7,r7,s7,p7,ug,uh,gr,all⟩;rw[YJG]at hi;obtain⟨k,ek,rfl⟩:=YJv.mp hi;obtain⟨hk,mY⟩:=JV.mp (YJF ek);obtain⟨r,er,hb⟩:=Z9.mp mY;obtain⟨tr,pp,ex,n_,gB⟩:=XE dxs er;have hrm:=YJF er;have okr:=YJP.mp (ZP hg) r hrm;obtain⟨r6,rp⟩:=YC5 okr;dsimp only[Yu];refine⟨_,U,_,U,l,xs,_,_,U,U,SqL.of (s7 _ _ hl),ZH ex,tr,_,0,_,U,U,SqT.of (s7 _ _ n_),U,_,U,dr,_,U,JX.k (k:=Sum.inr r.1) r7,_,U,?_⟩;rw[YC7];have last:∀{R2:List Str},(∀j,j < i->∀k,(Ys F0 g g.length)[j]?=some k->∀r,g[k]?=some r->r.1∈R->∀p∈r.2.1,isQ p=false->p∈R2)->(r.1∈R->∀p∈r.2.1,isQ p=false->p∈R2)->∀j,j < i + 1->∀k,(Ys F0 g g.length)[j]?=some k->∀r,g[k]?=some r->r.1∈R->∀p∈r.2.1,isQ p=false->p∈R2:=by
      intro R2 h1 h2 j hj k' qw r' lQ;rcases YKD.mp hj with hj |rfl
      ·exact h1 j hj k' qw r' lQ
      ·rw[ek]at qw;cases qw;rw[er]at lQ;cases lQ;exact h2
     refine Zt (λhm=>?_) λhm=>?_
     rotate_left
     ·have hm:¬r.1∈R1:=λh=>hm (YI7 h)
      exact⟨R1,_,u5,U,d7,r7,s7,p7,ug,uh,gr,last all λh=>absurd (gr.sub _ h) hm⟩
     have hm:=YJH hm;refine⟨_,U,_,U,l,xs,_,_,U,U,SqL.of (s7 _ _ hl),ZH ex,tr,_,1,_,U,U,SqT.of (s7 _ _ n_),U,pp,U,⟨_,SqT.of (s7 _ _ gB)⟩,?_⟩;refine YEH (K:=K) (a:=pp) (xs:=r.2.1.map V.str) (λjj σ H8=>∃(R2:List Str) (u5:Option V),σ=[some (.ref l),some (.ref d),some (.int (R.length:Int)),some (.int (k:Int)),some (.ref dr),u5]/\H8 d=some (.dK (rdD F0))/\H8 dr=some (.dK (rdD R2))/\YI H H8/\YJ H8/\H8 l'=some (.lst ((Ys F0 g g.length).map λk:Nat=>V.int (k:Int)))/\RS g R2/\Grw R R2/\(∀z∈R1,z∈R2)/\∀q,q < jj->∀p,r.2.1[q]?=some p->isQ p=false->p∈R2) ⟨R1,u5,U,d7,r7,s7,p7,ug,uh,gr,λ_ h=>h,λq hq=>absurd hq (YKS q)⟩ ?_ ?_ ?_
     ·rintro jj σ H8 _ ⟨R2,x5,rfl,_,_,s8,_⟩;exact SqT.of (s8 _ _ gB)
     ·rintro jj y σ H8 hj ⟨R2,x5,rfl,d8,r8,s8,p8,ux,ul,uy,ph,qx⟩;rw[YJG]at hj;obtain⟨p,ep,rfl⟩:=YJv.mp hj;have hpm:=YJF ep;obtain⟨c,hc,hlen,rO⟩:=YC6 (rp p hpm);dsimp only[Yu];refine⟨_,U,p,0,c,U,U,YH (by omega),hc,U,_,U,?_⟩;rw[rO];cases hq:isQ p with
      |true=>
       refine ZB ⟨R2,_,U,d8,r8,s8,p8,ux,ul,uy,ph,λq hq' p' ep' rN=>?_⟩;rcases YKD.mp hq' with hq' |rfl
       ·exact qx q hq' p' ep' rN
       ·rw[ep]at ep';cases ep';rw[hq]at rN;cases rN
      |false=>
       refine ZO ⟨_,U,_,U,dr,_,U,YAU.k (k:=Sum.inr p) r8 ?_,?_⟩
       ·have:=ul.len;unfold rdD;rw[YI6,sizeLine_eq];omega
       rw[YFm];refine⟨_,_,U,by rw[YN ndr];exact d8,YD,s8.put nr,p8.upd rfl,by rw[YN nlr];exact ux,ul.add hrm (fi.ripe hb) (ph _ hm) hpm hq,uy.add p,λz hz=>Zj.mpr (.inl (ph z hz)),λq hq' p' ep' rN=>?_⟩;rcases YKD.mp hq' with hq' |rfl
       ·exact Zj.mpr (.inl (qx q hq' p' ep' rN))
       ·rw[ep]at ep';cases ep';exact Zj.mpr (.inr rfl)
     ·rintro σ H8 ⟨R2,x5,rfl,d8,r8,s8,p8,ux,ul,uy,ph,qx⟩;refine⟨R2,_,x5,U,d8,r8,s8,p8,ux,ul,uy,last (λj hj k' qw r' lQ h1 p hp hq=>ph _ (all j hj k' qw r' lQ h1 p hp hq)) λ_ p hp hq=>?_⟩;obtain⟨q,hq',eq⟩:=YJu.mp hp;exact qx q (by rw[YI6];exact hq') p (by rw[YJC hq',eq]) hq
    ·rintro σ H7 ⟨R1,u3,u5,rfl,d7,r7,s7,p7,ug,uh,gr,all⟩;rw[YI6]at all;have f1:=uh.len;have g1:R.length<=R1.length:=gr.or.elim (λe=>by rw[e];exact YJB _) Nat.le_of_lt;refine⟨⟨R1,(R.length:Int),u3,u5,U,d7,r7,s7,p7,uh,by omega,by omega,λe=>YI4 gr (λk hk r er=>?_) (by omega)⟩,?_⟩
     ·obtain⟨j,hj,ej⟩:=YJu.mp hk;exact all j hj k (by rw[YJC hj,ej]) r er
     ·show((g.length:Int) + 1 - (R.length:Int)).toNat < ((g.length:Int) + 1 - m).toNat;omega
   ·rintro σ H' Q1 Q2 hQ ⟨v,e,v1,e1,a,kvs,ea,rd,i,j,ei,ej,k,ek,q⟩;exact⟨v,e,v1,e1,a,kvs,ea,rd,i,j,ei,ej,k,ek,hQ _ _ q⟩
  rintro σ H5 ⟨R,m5,w3,w5,rfl,d5,r5,s5,p5,uf,clR⟩;refine⟨_,U,_,U,l,d,xs,g,F0,U,s5 _ _ hl,dxs.same s5,hg,d5,p5,λl' H6 s6 p6 nl h6=>⟨l',U,⟨_,SqL.of h6⟩,λlc nZ=>?_⟩⟩;have hJ:=(ZF (SqL.of (K:=K) h6)).g;rw[YI6]at hJ;have hlen:(Ys F0 g g.length).length<=g.length:=by
   unfold Ys;have:=List.length_filter_le (J0 F0 g) (List.range g.length);rw[List.length_range]at this;exact this
  refine comp_fm (Ys F0 g g.length) (λk=>if YBb g R k=true then some (V.int (k:Int)) else none) hJ p6 nZ (YH (by omega)) (λτ'=>∃v,τ'=[v,some (.ref dr),some (.ref l)]) ⟨_,U⟩ ?_ ?_
  ·rintro τ' j k y H' Q1 Q2 ⟨v,rfl⟩ hx hit hs hp' hQ1 hQ2;rw[YJG,hx]at hit;cases hit;obtain⟨hk,mY⟩:=JV.mp (YJF hx);obtain⟨r,er,hb⟩:=Z9.mp mY;obtain⟨tr,pp,ex,n_,gB⟩:=XE dxs er;have s7:=(s5.trans s6).trans hs;refine⟨_,U,_,U,l,xs,_,_,U,U,SqL.of (s7 _ _ hl),ZH ex,tr,_,0,_,U,U,SqT.of (s7 _ _ n_),U,_,U,dr,_,U,JX.k (k:=Sum.inr r.1) (hs _ _ (s6 _ _ r5)),_,U,?_⟩;rw[YC7];have eh:YBb g R k=decide (r.1∈R):=by unfold YBb;rw[er]
   by_cases hm:r.1∈R
   ·rw[YI7 hm]at eh ⊢;exact ZO ⟨_,U,hQ1 _ _ _ ⟨_,U⟩ (YI.refl _) hp' (by rw[eh];rfl)⟩
   ·rw[YI8 hm]at eh ⊢;exact ZB (hQ2 _ _ ⟨_,U⟩ (YI.refl _) hp' (by rw[eh];rfl))
  ·intro H7 s7 p7 h7;refine q lc _ H7 (YFo fi cl clR uf.all) ((s5.trans s6).trans s7) p7 ?_;rw[h7,<-List.filterMap_eq_map,List.filterMap_filter];rfl
end
abbrev JN:Stmt:=top 115
abbrev J1:Stmt:=top 116
theorem YDA:(["_law_k"]:List Str).Nodup:=by decide +kernel
theorem XZ:(["_law_rule_here"]:List Str).Nodup:=by decide +kernel
inductive YEC (C:Addr) (vs:List V) (H:Hp) (Q:VK):Prop where
 |mk (x dx l:Addr) (g g':Ya) (z ans:Str) (aQ:vs=[.ref x,.str z,.str ans]) (aR:XC C H x dx l g) (bu:YC3 g z g' ans) (cM:YJ H) (dR:∀H',But l H H'->XC C H' x dx l g'->YJ H'->Q (.bl true) H'):YEC C vs H Q
def YDB (C:Addr):Sp:=λvs H Q E_=>YEC C vs H Q
inductive YED (C:Addr) (vs:List V) (H:Hp) (Q:VK):Prop where
 |mk (x dx l lk:Addr) (g:Ya) (xs:List V) (b:Bool) (aQ:vs=[.ref x,.ref lk,.bl b]) (aR:XC C H x dx l g) (bu:H lk=some (.lst xs)) (cM:YX H xs (g.map Yp)) (dR:lk≠l) (lO:YJ H) (sr:∀H',But l H H'->XC C H' x dx l g->YJ H'->Q (.bl true) H'):YED C vs H Q
def YFq (C:Addr):Sp:=λvs H Q E_=>YED C vs H Q
section
variable {P:Program}{w:World}{K:W.Frag}{mg:Str->Option Value}{base:Heap}{C:Adr}
theorem XF:YS ["_law_desk","_law_words","_law_due","_law_found"] ["_law_desk","_law_words","_law_due"] (YG JN):=⟨U,U,U,by decide +kernel,U,by decide +kernel,by decide +kernel⟩
theorem YBc {f:Addr}{fd:FuncData} (F:Fun K "_law_answered" "_law_answered" JN f fd) (T:Txt K mg C) (dN:YGi P w K mg CX0 10 C.Desk "say" ["self","row"] (YI0 C.Desk)):Yv P w K mg base CX0 11 f fd ["_law_desk","_law_words","_law_due"] (YDB C.Desk):=by
 obtain⟨rn,qM,lM,kJ,lN⟩:=dN.ok;refine F.ok XF (λvs H Q E h=>?_) (λaB A outer s H vs Q E hr h=>?_)
 ·cases h;subst_vars;rfl
 ·obtain⟨x,dx,l,g,g',z,ans,rfl,dk,dd,hp,q⟩:=h;refine qex ?_;refine⟨_,(YM ⟨(YO (i:=3) XF.nd rfl (Or.inl rfl) (YEJ (pv 0) T.aV kJ (lM base) (hr.mono (by decide)) lN .nil Yg (YA (pv 1) YB)))⟩
   (Zd ⟨(YT (Zw (YQ (ZT K rfl) (by rfl) T.aj YJV (YA (pv 3) (YA (JB (v:=.ty "str") (by rfl) T.cO YJZ rfl) YB))) (Zv (Zk JE (pv 3) (pv 2) (Yh _)))))⟩)),?_⟩
  refine⟨_,U,x,dx,_,U,dk.x,U,_,U,x,dx,l,g,g',z,ans,U,dk,dd,hp,λH1 b1 lR p1=>?_⟩;dsimp only[Yu];refine⟨_,U,_,_,_,_,_,U,(Den.str ans:Den H1 (.str ans) (.str ans)).ty,U,YAp (.str ans),_,U,ZO ⟨_,U,_,U,U,?_⟩⟩;rw[YI7 rfl];exact q _ b1 lR p1
theorem Jm:YS ["_law_desk","_law_rules","_law_turned","_law_words","_law_due"] ["_law_desk","_law_rules","_law_turned"] (YG J1):=⟨U,U,U,by decide +kernel,U,by decide +kernel,by decide +kernel⟩
theorem YDC {f:Addr}{fd:FuncData} (F:Fun K "_law_looked" "_law_looked" J1 f fd) (T:Txt K mg C) (au:Y6 P w K mg CX0 11 "_law_answered" ["_law_desk","_law_words","_law_due"] (YDB C.Desk)) (aA:Y6 P w K mg CX0 1 "_law_written" ["_law_rule_here"] (X2)) (bR:Y6 P w K mg CX0 2 "_law_needed" ["_law_rules"] (YC8)):Yv P w K mg base CX0 12 f fd ["_law_desk","_law_rules","_law_turned"] (YFq C.Desk):=by
 obtain⟨gG,gA,aC,aD,aF,aG⟩:=au.ok;obtain⟨ir,gH,bL,bM,bN,bO⟩:=aA.ok;obtain⟨pI,nR,iQ,iR,iT,iU⟩:=bR.ok;refine F.ok Jm (λvs H Q E h=>?_) (λaB A outer s H vs Q E hr h=>?_)
 ·cases h;subst_vars;rfl
 ·obtain⟨x,dx,l,lk,g,xs,b,rfl,dk,hlk,dxs,nlk,hp,q⟩:=h;have hu:=YBg hr;have hU:=hr.units;refine qex ?_;refine⟨_,(YM (YF7 (i:=3) Jm.nd rfl (Or.inl rfl) (YCd (YGh YIU (YGh YIU YCc))))
   (YM ⟨(YO (i:=4) Jm.nd rfl (Or.inl rfl) (JW (YA (ZL K rfl YJd YJy YJx (J7 K rfl) YW (YA (ZJ (N:=["_law_rule_here"]) (ρ:=[none]) (cl:=[]) rfl (Yb.plain rfl (by decide +kernel) (by decide +kernel) rfl (by simp)) (ZK K rfl (pv 1)) (λ_ _ _ _ _=>(Yf (i:=0) XZ rfl (Or.inl rfl) (.inr rfl))) (λ_ _ _ _ _=>ZI) (λ_ _ _ _ _=>(YK (bL base) (hr.mono (by decide)) (by rfl) bM bN bO .nil Yg (YA (pv 0) YB)))) YB)) (YA (ZL K rfl YJd YJy YJx (J7 K rfl) YW (YA (ZJ (N:=["_law_k"]) (ρ:=[none]) (cl:=[]) rfl (Yb.plain rfl (by decide +kernel) (by decide +kernel) rfl (by simp)) (ZK K rfl (YK (iQ base) (hr.mono (by decide)) (by rfl) iR iT iU .nil Yg (YA (pv 1) YB))) (λ_ _ _ _ _=>(Yf (i:=0) YDA rfl (Or.inl rfl) (.inr rfl))) (λ_ _ _ _ _=>ZI) (λ_ _ _ _ _=>(Yx ZN (by rfl) T.cO YJZ (YA (pv 0) YB)))) YB)) YB))))⟩
   (YM ⟨(Yt (ZC (pv 2)) (YE (JO (YGc K rfl YJi PySem.F.slot_list_reverse PySem.F.type_list_reverse YCP (pv 3)))
   (YF (JO (YGc K rfl YJi PySem.F.slot_list_reverse PySem.F.type_list_reverse YCP (pv 4))))) YY)⟩
   (Zd ⟨(YT (Zw (YK (aC base) (hr.mono (by decide)) (by rfl) aD aF aG .nil Yg (YA (pv 0) (YA (YR (YU K rfl) (pv 3) YC (λ_ _=>rfl)) (YA (YR (YU K rfl) (pv 4) YC (λ_ _=>rfl)) YB)))) (Zv (YK (aC base) (hr.mono (by decide)) (by rfl) aD aF aG .nil Yg (YA (pv 0) (YA (YR (YU K rfl) (pv 3) YC (λ_ _=>rfl)) (YA (YR (YU K rfl) (pv 4) YC (λ_ _=>rfl)) YB)))))))⟩)))),?_⟩
  have hg:=dk.g;have m8:=JR hg;have lr:xs.length=g.length:=by rw[dxs.len,YI6]
  refine⟨YH (show 2<=1000 by decide),λlw uz=>?_⟩;dsimp only[Yu];have s1:=YI.upd (o:=.lst [.str "show",.str "needed"]) uz;have p1:YJ (upd H lw (.lst [.str "show",.str "needed"])):=hp.upd rfl;have h1:upd H lw (.lst [.str "show",.str "needed"]) lw=some (.lst [.str "show",.str "needed"]):=YD;revert s1 p1 h1;generalize upd H lw (.lst [.str "show",.str "needed"])=H1;intro s1 p1 h1;have l1:=s1 _ _ hlk;refine⟨U,_,U,lk,U,⟨_,SqL.of l1⟩,λlc nZ=>?_⟩;refine Yw (n:=xs.length) 0 (λk y _=>∃z,(g.map Yk)[k]?=some z/\y=.str z) (ZF (SqL.of (K:=K) l1)) (λ_ _ _ _ _ h=>h) p1 nZ YJW (YH (by omega)) (λτ'=>0 < τ'.length) YJW (λτ' v h=>by rw[YJl];exact h) ?_ ?_
  ·intro τ' k y H' R _ hτ hit hk hs hp' eY hR;obtain⟨d,ed,dd⟩:=dxs.get hit;rw[YJG]at ed;cases er:g[k]? with
   |none=>rw[er]at ed;cases ed
   |some r=>
    rw[er]at ed;cases ed;exact⟨_,hτ,y,r,U,(dd.same s1).same hs,YJP.mp (ZP hg) r (YJF er),hp',λH6 s6 p6=>hR _ _ s6 p6 ⟨_,by rw[YJG,er];rfl,U⟩⟩
  intro ys H2 hy hP s2 p2 h2;have e2:ys=(g.map Yk).map V.str:=YAE (by rw[hy,YI6,lr]) hP;subst e2;refine⟨_,lc,g.map Yk,U,U,SqL.of h2,?_,?_⟩
  ·have h1:=Jd (ws:=g.map Yk) (n:=700) (m:=60) (λw hw=>by
    obtain⟨r,hr,rfl⟩:=YJM.mp hw;exact YAr (YJP.mp (ZP hg) r hr)) (by rw[YI6];exact m8)
   rw[show(("\n":Str)).length=1 from by decide +kernel,YKX,YI6];omega
  have rK:=s1.trans s2;refine⟨U,_,U,lk,xs,g,U,rK _ _ hlk,dxs.same rK,hg,p2,λln ks H3 hks s3 p3 h3=>⟨ln,U,⟨_,SqL.of h3⟩,λvm rm=>?_⟩⟩;have wA:∀k∈ks,k < 60:=λk h=>YJQ (hks.lt k h) m8
  have kl:ks.length<=60:=YJR hks.len m8;refine Yw (n:=(ks.map λk:Nat=>V.int (k:Int)).length) 0 (λj y _=>∃z,(ks.map ZS)[j]?=some z/\y=.str z) (ZF (SqL.of (K:=K) h3)) (λ_ _ _ _ _ h=>h) p3 rm YJW (YH (by rw[YI6];omega)) (λτ'=>0 < τ'.length) YJW (λτ' v h=>by rw[YJl];exact h) ?_ ?_
  ·intro τ' j y H' R _ hτ hit hj hs hp' eY hR;rw[YJG]at hit;cases ek:ks[j]? with
   |none=>rw[ek]at hit;cases hit
   |some k=>
    rw[ek]at hit;cases hit;have:=wA k (YJF ek);exact⟨_,hτ,(k:Int),U,Z6 (by omega) (YJn (show(k:Int)<=60 by omega) (by decide)),hR _ _ (YI.refl _) hp' ⟨_,by rw[YJG,ek];rfl,U⟩⟩
  intro zj H4 zm hP4 s4 p4 h4;have e4:zj=(ks.map ZS).map V.str:=YAE (by rw[zm,YI6,YI6]) hP4;subst e4;refine⟨_,vm,_,U,U,SqL.of h4,?_,YH (show 2<=1000 by decide),λld rP=>?_⟩
  ·have h1:=Jd (ws:=ks.map ZS) (n:=61) (m:=60) (λw hw=>by
    obtain⟨k,hk',rfl⟩:=YJM.mp hw;have:=wA k hk';exact X9 (by omega) (YJn (show(k:Int)<=60 by omega) (by decide))) (by rw[YI6];exact kl)
   rw[show((" ":Str)).length=1 from by decide +kernel,YKX,YI6];omega
  dsimp only[Yu];have wB:=(rK.trans s3).trans s4;have t5:=YI.upd (o:=.lst [.str (Txt.join "\n" (g.map Yk)),.str (Txt.join " " (ks.map ZS))]) rP;have nld:H ld=none:=wB.free rP;have vq:=s4 _ _ (s3 _ _ (s2 _ _ h1));have um:=t5 _ _ vq;have nwd:lw≠ld:=λz=>by rw[z,rP]at vq;cases vq
  have s5:=wB.trans t5;have p5:=p4.upd (a:=ld) (o:=.lst [.str (Txt.join "\n" (g.map Yk)),.str (Txt.join " " (ks.map ZS))]) rfl;have d5:upd H4 ld (.lst [.str (Txt.join "\n" (g.map Yk)),.str (Txt.join " " (ks.map ZS))]) ld=some (.lst [.str (Txt.join "\n" (g.map Yk)),.str (Txt.join " " (ks.map ZS))]):=YD;revert um s5 p5 d5;generalize upd H4 ld (.lst [.str (Txt.join "\n" (g.map Yk)),.str (Txt.join " " (ks.map ZS))])=H5;intro um s5 p5 d5;refine Zp (λσ H6=>∃z0 z1 a0 a1:Str,σ=[some (.ref x),some (.ref lk),some (.bl b),some (.ref lw),some (.ref ld)]/\YC3 g z0 g a0/\YC3 g z1 g a1/\H6 lw=some (.lst [.str z0,.str z1])/\H6 ld=some (.lst [.str a0,.str a1])/\YI H H6/\YJ H6) ?_ λfin=>?_
  rotate_left
  ·refine⟨_,U,b,U,?_⟩;refine Zt (λhb=>?_) λhb=>?_
   ·refine⟨_,U,.inl ⟨U,_,SqL.of um⟩,lw,_,U,U,um,?_⟩;have d6:upd H5 lw (.lst [.str "needed",.str "show"]) ld=some (.lst [.str (Txt.join "\n" (g.map Yk)),.str (Txt.join " " (ks.map ZS))]):=by rw[YN nwd.symm];exact d5
    refine⟨_,U,.inl ⟨U,_,SqL.of d6⟩,ld,_,U,U,d6,?_⟩;exact fin _ _ ⟨_,_,_,_,U,.need hks,.show,by rw[YN nwd];exact YD,YD,(s5.put uz).put nld,(p5.upd rfl).upd rfl⟩
   ·exact fin _ _ ⟨_,_,_,_,U,.show,.need hks,um,d5,s5,p5⟩
  rintro σ H6 ⟨z0,z1,a0,a1,rfl,e0,e1,wC,wD,s6,p6⟩;have zp:=dk.same s6;obtain⟨_,⟨_,hl0,_⟩,_⟩:=dk;have nw:lw≠l:=λz=>by rw[z,hl0]at uz;cases uz
  have uR:ld≠l:=λz=>by rw[z,hl0]at nld;cases nld
  refine⟨_,U,_,U,lw,_,0,_,U,U,SqL.of wC,U,_,U,ld,_,0,_,U,U,SqL.of wD,U,x,dx,l,g,g,z0,a0,U,zp,e0,p6,λH7 b7 vy p7=>⟨_,U,ZO ?_⟩⟩;exact⟨_,U,_,U,lw,_,1,_,U,U,SqL.of (b7 _ _ nw wC),U,_,U,ld,_,1,_,U,U,SqL.of (b7 _ _ uR wD),U,x,dx,l,g,g,z1,a1,U,vy,e1,p7,λH8 b8 uA p8=>q H8 (λa o ne e=>b8 a o ne (b7 a o ne (s6 a o e))) uA p8⟩
end
theorem JI {H H':Hp}{b:Addr}{ys:List V} (hb:H b=some (.lst ys)) (hB:But b H H'):∀{g:Ya}{xs:List V},YX H xs (g.map Yp)->YX H' xs (g.map Yp)
 |[],[],_=>.nil
 |[],_ :: _,h=>by unfold YX at h;exact h.elim
 |_ :: _,[],h=>by unfold YX at h;exact h.elim
 |r :: g,x :: xs,h=>by
  rw[YJO]at h ⊢;unfold YX at h;obtain⟨t,p,rfl,ht,hp⟩:=XA h.1;have nt:t≠b:=λz=>by rw[z,hb]at ht;cases ht
  have np:p≠b:=λz=>by rw[z,hb]at hp;cases hp
  exact .cons (.tup (hB _ _ nt ht) (.cons (.str _) (.cons (.tup (hB _ _ np hp) (YX.strs _)) (.cons (.int _) .nil)))) (JI hb hB h.2)
theorem But.put {H:Hp}{b:Addr}{o:HO}:But b H (upd H b o):=λa u ne e=>by rw[YN ne];exact e
theorem XC.but {C:Addr}{H H':Hp}{x dx l b:Addr}{g:Ya}{ys:List V} (h:XC C H x dx l g) (hb:H b=some (.lst ys)) (nb:l≠b) (hB:But b H H'):XC C H' x dx l g:=by
 obtain⟨hx,⟨xs,hl,d⟩,hg⟩:=h;have nx:x≠b:=λz=>by rw[z,hb]at hx;cases hx
 exact⟨hB _ _ nx hx,⟨xs,hB _ _ nb hl,JI hb hB d⟩,hg⟩
theorem YFr {C:Addr}{H:Hp}{x e l:Addr} (nx:H x=none) (ne:H e=none) (hl:upd (upd H e (.own x)) x (.ins C e []) l=none):
  YI H (upd (upd (upd (upd H e (.own x)) x (.ins C e [])) l (.lst [])) x (.ins C e [("rules",.ref l)]))/\XC C (upd (upd (upd (upd H e (.own x)) x (.ins C e [])) l (.lst [])) x (.ins C e [("rules",.ref l)])) x e l []/\H l=none:=by
 have nlx:l≠x:=λz=>by rw[z,YD]at hl;cases hl
 have hl1:=hl;rw[YN nlx]at hl1;have nle:l≠e:=λz=>by rw[z,YD]at hl1;cases hl1
 rw[YN nle]at hl1;refine⟨(((YI.upd ne).put nx).put hl1).put nx,⟨YD,⟨[],by rw[YN nlx,YD],.nil⟩,U⟩,hl1⟩
theorem YI5 {c:TT}{t u:TS}{D:YAP}{σ:L2.St}{H:Hp} (M:Hp->Prop) (hu:∀H',M H'->u D σ H') (h:(∀H',M H'->u D σ H')->tIfS c t u D σ H):tIfS c t u D σ H:=h hu
structure St2 (C:Addr) (H:Hp) (ld lk:Addr) (x dx l k:Bool->Addr) (g:Bool->Ya) (n:Nat):Prop where
 hd:H ld=some (.lst [.ref (x false),.ref (x true)])
 hk:H lk=some (.lst [.ref (k false),.ref (k true)])
 dk:∀c,XC C H (x c) (dx c) (l c) (g c)
 kp:∀c,∃xs,H (k c)=some (.lst xs)/\YX H xs ((g c).map Yp)
 ln:∀c,(g c).length<=n
 al:l false≠l true
 ak:k false≠k true
 ap:∀c c',l c≠k c'
 dl:∀c,ld≠l c/\ld≠k c/\lk≠l c/\lk≠k c
section
variable {C:Addr}{H H':Hp}{ld lk:Addr}{x dx l k:Bool->Addr}{g:Bool->Ya}{n:Nat}
theorem YGT {f:Bool->Addr} (h:f false≠f true) {c c':Bool} (e:c≠c'):f c≠f c':=by
 cases c <;> cases c'
 ·exact absurd rfl e
 ·exact h
 ·exact h.symm
 ·exact absurd rfl e
theorem St2.same (s:St2 C H ld lk x dx l k g n) (e:YI H H'):St2 C H' ld lk x dx l k g n:=
 ⟨e _ _ s.hd,e _ _ s.hk,λc=>(s.dk c).same e,λc=>let ⟨xs,a,b⟩:=s.kp c;⟨xs,e _ _ a,b.same e⟩,s.ln,s.al,s.ak,s.ap,s.dl⟩
theorem St2.say (s:St2 C H ld lk x dx l k g n) {c:Bool} (hB:But (l c) H H') (dk:XC C H' (x c) (dx c) (l c) (g c)):St2 C H' ld lk x dx l k g n:=by
 obtain⟨_,⟨ys,hl,_⟩,_⟩:=s.dk c;refine⟨hB _ _ (s.dl c).1 s.hd,hB _ _ (s.dl c).2.2.1 s.hk,λc'=>?_,λc'=>?_,s.ln,s.al,s.ak,s.ap,s.dl⟩
 ·by_cases e:c'=c
  ·subst e;exact dk
  ·exact(s.dk c').but hl (YGT s.al e) hB
 ·obtain⟨xs,h1,h2⟩:=s.kp c';exact⟨xs,hB _ _ (Ne.symm (s.ap c c')) h1,JI hl hB h2⟩
theorem St2.turn (s:St2 C H ld lk x dx l k g n) {c:Bool}{g':Ya}{ys:List V}{H1:Hp} (hy:YX H ys (g'.map Yp)) (e1:H1=upd H (k c) (.lst ys)) (hB:But (l c) H1 H') (dk:XC C H' (x c) (dx c) (l c) g') {m:Nat} (hm:n<=m) (hg':g'.length<=m):
  St2 C H' ld lk x dx l k (λc'=>if c'=c then g' else g c') m:=by
 subst e1;obtain⟨zs,vz,_⟩:=s.kp c;obtain⟨_,⟨ws,hl,_⟩,_⟩:=s.dk c;have hl1:upd H (k c) (.lst ys) (l c)=some (.lst ws):=by rw[YN (s.ap c c)];exact hl
 have b1:But (k c) H (upd H (k c) (.lst ys)):=But.put;refine⟨hB _ _ (s.dl c).1 (b1 _ _ (s.dl c).2.1 s.hd),hB _ _ (s.dl c).2.2.1 (b1 _ _ (s.dl c).2.2.2 s.hk),λc'=>?_,λc'=>?_,λc'=>?_,s.al,s.ak,s.ap,s.dl⟩
 ·by_cases e:c'=c
  ·subst e;rw[if_pos rfl];exact dk
  ·rw[if_neg e];exact((s.dk c').but vz (s.ap c' c) b1).but hl1 (YGT s.al e) hB
 ·by_cases e:c'=c
  ·subst e;rw[if_pos rfl];exact⟨ys,hB _ _ (Ne.symm (s.ap c' c')) YD,JI hl1 hB (JI vz b1 hy)⟩
  ·rw[if_neg e];obtain⟨xs,h1,h2⟩:=s.kp c';exact⟨xs,hB _ _ (Ne.symm (s.ap c c')) (b1 _ _ (YGT s.ak e) h1),JI hl1 hB (JI vz b1 h2)⟩
 ·by_cases e:c'=c
  ·rw[if_pos e];exact hg'
  ·rw[if_neg e];exact YJR (s.ln c') hm
end
theorem YI.but3 {H H6 H7:Hp}{b:Addr} (s:YI H H6) (hB:But b H6 H7) (nb:H b=none):YI H H7:=λa o e=>hB a o (YV e nb) (s a o e)
theorem But.same {H H6 H7:Hp}{b:Addr} (s:YI H H6) (hB:But b H6 H7) (nb:H b=none):YI H H7:=λa o e=>hB a o (YV e nb) (s a o e)
section
variable {P:Program}{w:World}{K:W.Frag}{mg:Str->Option Value}{base:Heap}{C:Adr}
theorem Xa:YS ["_law_script","_law_desks","_law_kept","_law_k","_law_cell","_law_at","_law_number","_law_rule_here","_law_look"] ["_law_script"] (YG YAz):=⟨U,U,U,by decide +kernel,U,by decide +kernel,by decide +kernel⟩
theorem ok_law {f:Addr}{fd:FuncData} (F:Fun K "law" "law" YAz f fd) (T:Txt K mg C) (aP:Y6 P w K mg CX0 2 "_law_mixed" ["_law_script","_law_k"] (YEm K)) (bT:Y6 P w K mg CX0 12 "_law_looked" ["_law_desk","_law_rules","_law_turned"] (YFq C.Desk)) (dC:Y6 P w K mg CX0 3 "_law_rule" ["_law_script","_law_k"] (YFl K)) (au:Y6 P w K mg CX0 11 "_law_answered" ["_law_desk","_law_words","_law_due"] (YDB C.Desk)) (aA:Y6 P w K mg CX0 1 "_law_written" ["_law_rule_here"] (X2)) (bj:UsedI P w K mg CX0 1 C.Desk ["self"] (YG1 C.Desk)):Yv P w K mg base CX0 13 f fd ["_law_script"] (YFF K):=by
 obtain⟨jz,iM,aX,aY,aZ,a_⟩:=aP.ok;obtain⟨pJ,nU,bU,bV,bW,bY⟩:=bT.ok;obtain⟨qN,ql,kO,kW,kY,kZ⟩:=dC.ok;obtain⟨gG,gA,aC,aD,aF,aG⟩:=au.ok;obtain⟨ir,gH,bL,bM,bN,bO⟩:=aA.ok;obtain⟨mW,mK,cQ,cR,cT⟩:=bj.ok;refine F.ok Xa (λvs H Q E h=>?_) (λaB A outer s H vs Q E hr h=>?_)
 ·cases h;subst_vars;rfl
 ·obtain⟨a,ns,rfl,hS,hn,hp,q⟩:=h;have hu:=YBg hr;have hU:=hr.units;refine qex ?_;refine⟨_,(YM ⟨(YO (i:=1) Xa.nd rfl (Or.inl rfl) (JW (YA (YEw cR (cQ base) (hr.mono (by decide)) (by rfl) T.nu cT .nil Yg) (YA (YEw cR (cQ base) (hr.mono (by decide)) (by rfl) T.nu cT .nil Yg) YB))))⟩
   (YM (YF7 (i:=2) Xa.nd rfl (Or.inl rfl) (YCd (YGh (YCd YCc) (YGh (YCd YCc) YCc))))
   (YM ⟨(Z3 PassesOwn.never rfl (YHE rfl T.dH (YA YC (YA (YQ (YHG rfl) (by rfl) T.sH PyProof.Rows.Boot.«min» (YA (YQ (Yc K rfl) (by rfl) T.aH YJE (YA (pv 0) YB)) (YA YC YB))) YB))) (Yf (i:=3) Xa.nd rfl (Or.inl rfl)) (YE (YO (i:=4) Xa.nd rfl (Or.inl rfl) (YK (aX base) (hr.mono (by decide)) (by rfl) aY aZ a_ .nil Yg (YA (pv 0) (YA (pv 3) YB))))
   (YE (YO (i:=5) Xa.nd rfl (Or.inl rfl) (YL Y1 (pv 4) YC))
   (YE (Yt (PW.pt (YEF (Yl YCM (YL Y1 (YL Y9 (pv 4) YC) YC) YC (Yh _)) (YB5 (Yl (YCa K rfl hU) (YR (YU K rfl) (pv 2) (pv 5) (λ_ _=>rfl)) (JW YB) (Yh _))))) (YE (YO (i:=6) Xa.nd rfl (Or.inl rfl) (YL Y1 (YL Y9 (pv 4) YC) (YQ (Yc K rfl) (by rfl) T.aH YJE (YA (YR (YU K rfl) (pv 2) (pv 5) (λ_ _=>rfl)) YB))))
   (YE (JO (ZL K rfl YJi PySem.F.slot_list_pop PySem.F.type_list_pop YEz (YR (YU K rfl) (pv 2) (pv 5) (λ_ _=>rfl)) (YA (pv 6) YB)))
   (YF (Yt (Zf (ZC (YK (aC base) (hr.mono (by decide)) (by rfl) aD aF aG .nil Yg (YA (YR (YU K rfl) (pv 1) (pv 5) (λ_ _=>rfl)) (YA (YL Zm YW (Yx ZN (by rfl) T.cO YJZ (YA (pv 6) YB))) (YA YW YB)))))) (YF (YT Zu)) YY)))) (YE (YO (i:=7) Xa.nd rfl (Or.inl rfl) (YK (kO base) (hr.mono (by decide)) (by rfl) kW kY kZ .nil Yg (YA (pv 0) (YA (pv 3) YB))))
   (YE (JO (ZL K rfl YJi YJ4 YJ3 Z4 (YR (YU K rfl) (pv 2) (pv 5) (λ_ _=>rfl)) (YA (pv 7) YB)))
   (YF (Yt (Zf (ZC (YK (aC base) (hr.mono (by decide)) (by rfl) aD aF aG .nil Yg (YA (YR (YU K rfl) (pv 1) (pv 5) (λ_ _=>rfl)) (YA (YL Zm YW (YK (bL base) (hr.mono (by decide)) (by rfl) bM bN bO .nil Yg (YA (pv 7) YB))) (YA (Yx ZN (by rfl) T.cO YJZ (YA (YL YEI (YQ (Yc K rfl) (by rfl) T.aH YJE (YA (YR (YU K rfl) (pv 2) (pv 5) (λ_ _=>rfl)) YB)) YC) YB)) YB)))))) (YF (YT Zu)) YY)))))
   (YE (YO (i:=8) Xa.nd rfl (Or.inl rfl) (YL Y1 (YL Y9 (pv 4) YC) YC))
   (YF (Yt (Zf (ZC (YK (bU base) (hr.mono (by decide)) (by rfl) bV bW bY .nil Yg (YA (YR (YU K rfl) (pv 1) (pv 8) (λ_ _=>rfl)) (YA (YR (YU K rfl) (pv 2) (pv 8) (λ_ _=>rfl)) (YA (Zk JE (YL Y1 (YL Y9 (pv 4) YC) YC) YC (Yh _)) YB)))))) (YF (YT Zu)) YY)))))))⟩
   (Zd ⟨(YT (Zw (YK (bU base) (hr.mono (by decide)) (by rfl) bV bW bY .nil Yg (YA (YR (YU K rfl) (pv 1) YC (λ_ _=>rfl)) (YA (YR (YU K rfl) (pv 2) YC (λ_ _=>rfl)) (YA Zu YB)))) (Zv (YK (bU base) (hr.mono (by decide)) (by rfl) bV bW bY .nil Yg (YA (YR (YU K rfl) (pv 1) YC (λ_ _=>rfl)) (YA (YR (YU K rfl) (pv 2) YC (λ_ _=>rfl)) (YA Zu YB)))))))⟩)))),?_⟩
  intro x0 e0 zq ne0 nxe0;refine⟨x0,e0,U,YD,(hp.upd rfl).upd rfl,λl0 hl0=>⟨U,?_⟩⟩;obtain⟨s0,uB,zr⟩:=YFr zq ne0 hl0;have p0:YJ (upd (upd (upd (upd H e0 (.own x0)) x0 (.ins C.Desk e0 [])) l0 (.lst [])) x0 (.ins C.Desk e0 [("rules",.ref l0)])):=(((hp.upd rfl).upd rfl).upd rfl).upd rfl;revert s0 uB p0;generalize upd (upd (upd (upd H e0 (.own x0)) x0 (.ins C.Desk e0 [])) l0 (.lst [])) x0 (.ins C.Desk e0 [("rules",.ref l0)])=H0;intro s0 uB p0 x1 e1 zu ne1 nxe1;refine⟨x1,e1,U,YD,(p0.upd rfl).upd rfl,λl1 hl1=>⟨U,YH (show 2<=1000 by decide),?_⟩⟩;obtain⟨s1,lR,wF⟩:=YFr zu ne1 hl1;have p1:YJ (upd (upd (upd (upd H0 e1 (.own x1)) x1 (.ins C.Desk e1 [])) l1 (.lst [])) x1 (.ins C.Desk e1 [("rules",.ref l1)])):=(((p0.upd rfl).upd rfl).upd rfl).upd rfl;revert s1 lR p1;generalize upd (upd (upd (upd H0 e1 (.own x1)) x1 (.ins C.Desk e1 [])) l1 (.lst [])) x1 (.ins C.Desk e1 [("rules",.ref l1)])=H1;intro s1 lR p1 ld rP;dsimp only[Yu];refine⟨YJh _,λk0 hk0=>⟨YJh _,λk1 hk1=>⟨YH (show 2<=1000 by decide),λlk hlk=>?_⟩⟩⟩;dsimp only[Yu];have ta:=YI.upd (o:=.lst [.ref x0,.ref x1]) rP;have tb:=YI.upd (o:=.lst []) hk0;have tc:=YI.upd (o:=.lst []) hk1;have td:=YI.upd (o:=.lst [.ref k0,.ref k1]) hlk;obtain⟨wG,su,_⟩:=uB.l;obtain⟨wH,hy1,_⟩:=lR.l;have qm:=s1 _ _ su;have st:St2 C.Desk (upd (upd (upd (upd H1 ld (.lst [.ref x0,.ref x1])) k0 (.lst [])) k1 (.lst [])) lk (.lst [.ref k0,.ref k1])) ld lk (λc=>cond c x1 x0) (λc=>cond c e1 e0) (λc=>cond c l1 l0) (λc=>cond c k1 k0) (λ_=>[]) 0:=by
   have c0:H1 k0=none/\k0≠ld:=⟨ta.free hk0,λz=>by rw[z,YD]at hk0;cases hk0⟩;have c1:H1 k1=none/\k1≠ld/\k1≠k0:=⟨(ta.trans tb).free hk1,(λz=>by rw[z,tb _ _ YD]at hk1;cases hk1),(λz=>by rw[z,YD]at hk1;cases hk1)⟩;have c2:H1 lk=none/\lk≠k0/\lk≠k1:=⟨((ta.trans tb).trans tc).free hlk,(λz=>by rw[z,tc _ _ YD]at hlk;cases hlk),(λz=>by rw[z,YD]at hlk;cases hlk)⟩;refine⟨td _ _ (tc _ _ (tb _ _ YD)),YD,λc=>?_,λc=>?_,λc=>YJB _,YV su wF,c1.2.2.symm,λc c'=>?_,λc=>?_⟩
   ·cases c
    ·exact uB.same ((((s1.trans ta).trans tb).trans tc).trans td)
    ·exact lR.same (((ta.trans tb).trans tc).trans td)
   ·cases c
    ·exact⟨[],td _ _ (tc _ _ YD),.nil⟩
    ·exact⟨[],td _ _ YD,.nil⟩
   ·cases c <;> cases c'
    ·exact YV qm c0.1
    ·exact YV qm c1.1
    ·exact YV hy1 c0.1
    ·exact YV hy1 c1.1
   ·cases c
    ·exact⟨(YV qm rP).symm,c0.2.symm,(YV qm c2.1).symm,c2.2.1⟩
    ·exact⟨(YV hy1 rP).symm,c1.2.1.symm,(YV hy1 c2.1).symm,c2.2.2⟩
  have s5:=((((s0.trans s1).trans ta).trans tb).trans tc).trans td;have p5:YJ (upd (upd (upd (upd H1 ld (.lst [.ref x0,.ref x1])) k0 (.lst [])) k1 (.lst [])) lk (.lst [.ref k0,.ref k1])):=(((p1.upd rfl).upd rfl).upd rfl).upd rfl;have nls:∀c:Bool,H ((λc:Bool=>cond c l1 l0) c)=none:=λc=>by
   cases c
   ·exact zr
   ·exact s0.free wF
  have nks:∀c:Bool,H ((λc:Bool=>cond c k1 k0) c)=none:=λc=>by
   cases c
   ·exact((s0.trans s1).trans ta).free hk0
   ·exact(((s0.trans s1).trans ta).trans tb).free hk1
  revert st s5 p5 nls nks;generalize upd (upd (upd (upd H1 ld (.lst [.ref x0,.ref x1])) k0 (.lst [])) k1 (.lst [])) lk (.lst [.ref k0,.ref k1])=H5;generalize (λc:Bool=>cond c x1 x0)=xs;generalize (λc:Bool=>cond c e1 e0)=es;generalize (λc:Bool=>cond c l1 l0)=ls;generalize (λc:Bool=>cond c k1 k0)=ks;intro st s5 p5 nls nks;refine⟨_,U,a,_,U,.inl (s5.seq hS),_,_,U,_,_,U,?_,?_⟩
  ·rw[YI6];refine⟨by decide,by decide,?_,?_⟩ <;> split <;> omega
  have hN:((if (34:Int) < ((ns.map V.int).length:Nat) then 34 else (((ns.map V.int).length:Nat):Int)) - 10).toNat<=24:=by split <;> omega
  refine X4 (lo:=10) (n:=((if (34:Int) < ((ns.map V.int).length:Nat) then 34 else (((ns.map V.int).length:Nat):Int)) - 10).toNat) (λi σ H6=>∃(g:Bool->Ya) (v3 v4 v5 v6 v7 v8:Option V),σ=[some (.ref a),some (.ref ld),some (.ref lk),v3,v4,v5,v6,v7,v8]/\St2 C.Desk H6 ld lk xs es ls ks g i/\YI H H6/\YJ H6) ⟨_,none,none,none,none,none,none,U,st,s5,p5⟩ ?_ ?_
  ·rintro i σ H6 hi ⟨g,v3,v4,v5,v6,v7,v8,rfl,iY,s6,p6⟩;have yD:i < 24:=YJQ hi hN;dsimp only[Yu];refine⟨_,U,_,U,a,ns,_,U,s6.seq hS,by omega,by omega,λcv c0 c1=>?_⟩;dsimp only[Yu];refine⟨_,U,_,_,U,U,by decide,?_⟩;dsimp only[Yu];obtain⟨c,hc⟩:∃c:Bool,cv % 2=(if c=true then 1 else 0):=by
    by_cases h:cv % 2=1
    ·exact⟨true,h⟩
    ·exact⟨false,by show cv % 2=0;omega⟩
   rw[hc];have atX:∀{f:Bool->Addr} (c:Bool),atI [V.ref (f false),V.ref (f true)] (if c=true then 1 else 0)=some (.ref (f c)):=λc=>by cases c <;> rfl
   refine Zp (λσ' H7=>∃(g:Bool->Ya) (w6 w7:Option V),σ'=[some (.ref a),some (.ref ld),some (.ref lk),some (.int (10 + (i:Int))),some (.int cv),some (.int (if c=true then 1 else 0)),w6,w7,v8]/\St2 C.Desk H7 ld lk xs es ls ks g (i + 1)/\YI H H7/\YJ H7) ?_ λfin=>?_
   rotate_left
   ·refine YI5 (λH'=>St2 C.Desk H' ld lk xs es ls ks g i/\YI H H'/\YJ H') ?_ λR=>?_
    ·rintro H1 ⟨m9,pK,sy⟩;refine⟨_,U,_,U,a,ns,_,U,pK.seq hS,by omega,by omega,sy,λv r H2 okr s2 p2 dv=>?_⟩;dsimp only[Yu];have iD:=m9.same s2;obtain⟨zs,hz,dz⟩:=iD.kp c;have qu:zs.length=(g c).length:=by rw[dz.len,YI6]
     have pL:=iD.ln c;refine⟨_,U,_,U,lk,_,_,_,U,U,SqL.of iD.hk,atX c,.inl ⟨U,_,SqL.of hz⟩,_,U,ks c,zs,v,U,U,hz,(by rw[sizeLine_eq];omega),?_⟩;have hb:But (ks c) H2 (upd H2 (ks c) (.lst (zs ++ [v]))):=But.put;obtain⟨H3,e3⟩:∃H3,upd H2 (ks c) (.lst (zs ++ [v]))=H3:=⟨_,U⟩;rw[e3]at hb;have hk3:H3 (ks c)=some (.lst (zs ++ [v])):=by rw[<-e3];exact YD
     have p3:YJ H3:=e3 ▸ p2.upd rfl;have vA:=hb _ _ (iD.dl c).2.1 iD.hd;have zx:=hb _ _ (iD.dl c).2.2.2 iD.hk;have wI:YX H3 [v] ([r].map Yp):=JI hz hb (.cons dv .nil);have vB:=(iD.dk c).but hz (iD.ap c c) hb;have hlen:(((zs ++ [v]).length:Nat):Int) - 1=(((g c).length:Nat):Int):=by rw[YJL];show((zs.length + 1:Nat):Int) - 1=_;omega
     have dd:YC3 (g c) ("rule " ++ Yk r) (g c ++ [r]) ((toString ((((zs ++ [v]).length:Nat):Int) - 1):String):Str):=by
      rw[hlen];exact .rule (YHf okr) okr (Nat.lt_of_le_of_lt pL (by omega)) (YJR (YAr okr) (by decide))
     rw[e3];refine⟨_,U,_,U,ld,_,_,_,U,U,SqL.of vA,atX c,_,U,v,r,U,(by unfold YX at wI;exact wI.1),okr,p3,λH4 s4 p4=>⟨_,_,U,U,?_,_,U,_,U,lk,_,_,_,U,U,SqL.of (s4 _ _ zx),atX c,ks c,_,U,.inl (SqL.of (s4 _ _ hk3)),_,_,U,U,_,U,?_,xs c,es c,ls c,g c,g c ++ [r],_,_,U,vB.same s4,dd,p4,λH5 b5 vC vD=>⟨_,U,ZB ?_⟩⟩⟩
     ·have:=YAr okr;rw[sizeLine_eq,show("rule ":Str).length=5 by decide +kernel];omega
     ·rw[hlen];exact Z6 (by omega) (YJn (show(((g c).length:Nat):Int)<=60 by have:=pL;omega) (by decide))
     ·refine fin _ _ ⟨_,_,_,U,iD.turn (c:=c) (g':=g c ++ [r]) (ys:=zs ++ [v]) ?_ e3.symm (But.pre s4 b5) vC (YKP i) ?_,But.same ((YI.but3 (pK.trans s2) hb (nks c)).trans s4) b5 (nls c),vD⟩
      ·rw[YJj];exact dz.append (.cons dv .nil)
      ·rw[YJL];exact Nat.succ_le_succ pL
    ·refine⟨_,U,_,_,U,U,⟨by decide,by decide⟩,_,_,U,U,by decide,_,_,U,U,_,U,?_⟩;refine Zt (λ_=>?_) λ_=>ZB (R _ ⟨iY,s6,p6⟩)
     obtain⟨zs,hz,dz⟩:=iY.kp c;have pL:=iY.ln c;have qu:zs.length=(g c).length:=by rw[dz.len,YI6]
     refine⟨_,U,_,U,lk,_,_,_,U,U,SqL.of iY.hk,atX c,YJh _,λle hle=>⟨_,_,.lst (.inl ((YI.upd hle) _ _ hz)) (dz.same (YI.upd hle)),.lst (.inl YD) .nil,YGp (g c),U,YFE (g c),_,U,?_⟩⟩;have te:=YI.upd (o:=.lst []) hle;have m9:=iY.same te;have pK:=s6.trans te;have sy:YJ (upd H6 le (.lst [])):=p6.upd rfl;have sE:=te _ _ hz;have vG:=dz.same te;revert m9 pK sy sE vG;generalize upd H6 le (.lst [])=H1;intro m9 pK sy sE vG
     by_cases eg:g c=[]
     ·have ee:(!eqD (D.lst ((g c).map Yp)) (D.lst []))=false:=by rw[eg];rfl
      rw[ee];exact ZB (R _ ⟨m9,pK,sy⟩)
     have ee:(!eqD (D.lst ((g c).map Yp)) (D.lst []))=true:=by
      cases zy:g c with
      |nil=>exact absurd zy eg
      |cons r0 Ye=>rfl
     rw[ee];have hpos:0 < zs.length:=by rw[qu];exact List.length_pos_iff.mpr eg
     refine ZO ⟨_,U,_,_,U,U,⟨by decide,by decide⟩,_,U,_,U,lk,_,_,_,U,U,SqL.of m9.hk,atX c,ks c,zs,U,.inl (SqL.of sE),_,_,U,U,by omega,?_⟩;dsimp only[Yu];obtain⟨nn,hnn,hnl⟩:∃nn:Nat,cv / 16 % (zs.length:Int)=(nn:Int)/\nn < zs.length:=by
      have h1:=YKL (cv / 16) (show(zs.length:Int)≠0 by omega);have h2:=YKB (cv / 16) (show(0:Int) < (zs.length:Int) by omega);exact⟨(cv / 16 % (zs.length:Int)).toNat,by omega,by omega⟩
     rw[hnn];refine⟨_,U,_,U,lk,_,_,_,U,U,SqL.of m9.hk,atX c,.inl ⟨U,_,SqL.of sE⟩,_,U,ks c,zs,(nn:Int),nn,_,U,U,sE,by omega,by omega,seqIndex_of (Int.natCast_nonneg nn) (by omega),YJC hnl,?_⟩;have hb:But (ks c) H1 (upd H1 (ks c) (.lst (zs.eraseIdx nn))):=But.put;obtain⟨H3,e3⟩:∃H3,upd H1 (ks c) (.lst (zs.eraseIdx nn))=H3:=⟨_,U⟩;rw[e3]at hb;have p3:YJ H3:=e3 ▸ sy.upd rfl;have vA:=hb _ _ (m9.dl c).2.1 m9.hd;have vB:=(m9.dk c).but sE (m9.ap c c) hb;have zz:nn < (g c).length:=by omega
     rw[e3];refine⟨_,U,_,U,ld,_,_,_,U,U,SqL.of vA,atX c,_,U,_,U,Z6 (by omega) (YJn (show(nn:Int)<=60 by omega) (by decide)),_,_,U,U,?_,xs c,es c,ls c,g c,(g c).eraseIdx nn,_,_,U,vB,.drop zz,p3,λH5 b5 vC vD=>⟨_,U,ZB ?_⟩⟩
     ·have:=X9 (n:=(nn:Int)) (by omega) (YJn (show(nn:Int)<=60 by omega) (by decide));rw[sizeLine_eq,show("drop ":Str).length=5 by decide +kernel];omega
     ·refine fin _ _ ⟨_,_,_,U,m9.turn (c:=c) (g':=(g c).eraseIdx nn) (ys:=zs.eraseIdx nn) ?_ e3.symm b5 vC (YKP i) ?_,But.same (YI.but3 pK hb (nks c)) b5 (nls c),vD⟩
      ·rw[<-YBU];exact YAc vG nn
      ·exact YJR (List.length_eraseIdx_le ..) (Nat.le_succ_of_le pL)
   rintro σ' H7 ⟨g7,w6,w7,rfl,m_,s7,p7⟩;refine⟨_,U,_,_,U,U,⟨by decide,by decide⟩,_,_,U,U,by decide,?_⟩;dsimp only[Yu];obtain⟨c',hc'⟩:∃c:Bool,cv / 128 % 2=(if c=true then 1 else 0):=by
    by_cases h:cv / 128 % 2=1
    ·exact⟨true,h⟩
    ·exact⟨false,by show cv / 128 % 2=0;omega⟩
   rw[hc'];obtain⟨ys,hy,dy⟩:=m_.kp c';refine⟨_,U,_,U,ld,_,_,_,U,U,SqL.of m_.hd,atX c',_,U,_,U,lk,_,_,_,U,U,SqL.of m_.hk,atX c',_,U,_,_,U,U,⟨by decide,by decide⟩,_,_,U,U,by decide,U,xs c',es c',ls c',ks c',g7 c',ys,_,U,m_.dk c',hy,dy,(m_.ap c' c').symm,p7,λH8 b8 uA p8=>⟨_,U,ZB ?_⟩⟩;exact⟨g7,_,_,_,_,_,_,U,m_.say b8 uA,But.same s7 b8 (nls c'),p8⟩
  ·rintro σ H6 ⟨g,v3,v4,v5,v6,v7,v8,rfl,iY,s6,p6⟩;obtain⟨wG,su,zA⟩:=iY.kp false;refine⟨_,U,ld,_,0,_,U,U,SqL.of iY.hd,U,_,U,lk,_,0,_,U,U,SqL.of iY.hk,U,xs false,es false,ls false,ks false,g false,wG,false,U,iY.dk false,su,zA,(iY.ap false false).symm,p6,λH7 b7 vy p7=>⟨_,U,ZO ?_⟩⟩;have m_:=iY.say b7 vy;obtain⟨wH,hy1,zB⟩:=m_.kp true;exact⟨_,U,ld,_,1,_,U,U,SqL.of m_.hd,U,_,U,lk,_,1,_,U,U,SqL.of m_.hk,U,xs true,es true,ls true,ks true,g true,wH,true,U,m_.dk true,hy1,zB,(m_.ap true true).symm,p7,λH8 b8 uA p8=>q H8⟩
end
theorem all_mk {l:PySem.W.OpenLaw}{w:World}{K:W.Frag}{h:Heap}{mg:Str->Option Value}{fa bf dD iu jJ f0 f1 f2 f3 f4 f5 f6 f7 f8 f9 wJ wK wL wM wN wO wQ wR wU wV wW wX wY wZ yc yd ye yf yg yh yj yl ym yo yp yq yr yt yu yw vH:Addr} (X:K.In h) (G:h.Ns mainGlobals mg) (zE:mg "law"=some (.ref fa))
  {od an:Option Addr}{sl:Array (Option Value)}{oc kV dc pm cd ct:Value}{tFIRST_CODE tLAST_CODE tPERCENT_CODE tMOST_LETTERS tMOST_PARTS tMOST_RULES tMOST_FIGURES:Tok}
  (nDesk:PySem.W.nsIn K mainGlobals "Desk"=some (some (.ref bf)))
  (nNoGrammar:PySem.W.nsIn K mainGlobals "NoGrammar"=some (some (.ref dD)))
  (nNoRule:PySem.W.nsIn K mainGlobals "NoRule"=some (some (.ref iu)))
  (nFORMS:PySem.W.nsIn K mainGlobals "FORMS"=some (some (.ref jJ)))
  (d0:L2.Dn K "is_whole" f0)
  (l0:Ln K "is_whole" "is_whole" YAZ f0)
  (d1:L2.Dn K "stands_in_texts" f1)
  (l1:Ln K "stands_in_texts" "stands_in_texts" Zz f1)
  (d2:L2.Dn K "is_sign" f2)
  (l2:Ln K "is_sign" "is_sign" YBP f2)
  (d3:L2.Dn K "is_name" f3)
  (l3:Ln K "is_name" "is_name" YBQ f3)
  (d4:L2.Dn K "is_part" f4)
  (l4:Ln K "is_part" "is_part" YBR f4)
  (d5:L2.Dn K "is_worth" f5)
  (l5:Ln K "is_worth" "is_worth" YAa f5)
  (d6:L2.Dn K "are_parts" f6)
  (l6:Ln K "are_parts" "are_parts" Xu f6)
  (d7:L2.Dn K "is_rule" f7)
  (l7:Ln K "is_rule" "is_rule" YBS f7)
  (d8:L2.Dn K "is_grammar" f8)
  (l8:Ln K "is_grammar" "is_grammar" XO f8)
  (d9:L2.Dn K "checked" f9)
  (l9:Ln K "checked" "checked" YBT f9)
  (zF:L2.Dn K "is_figures" wJ)
  (zG:Ln K "is_figures" "is_figures" XQ wJ)
  (zH:L2.Dn K "show_part" wK)
  (zJ:Ln K "show_part" "show_part" Xv wK)
  (zK:L2.Dn K "show_rule" wL)
  (zL:Ln K "show_rule" "show_rule" Xw wL)
  (zM:L2.Dn K "read_part" wM)
  (zN:Ln K "read_part" "read_part" Xx wM)
  (zO:L2.Dn K "read_rule" wN)
  (zP:Ln K "read_rule" "read_rule" Xy wN)
  (zQ:L2.Dn K "size_of_part" wO)
  (zR:Ln K "size_of_part" "size_of_part" Jh wO)
  (zT:L2.Dn K "size_of_rule" wQ)
  (zU:Ln K "size_of_rule" "size_of_rule" Ji wQ)
  (zV:L2.Dn K "least_sizes" wR)
  (zW:Ln K "least_sizes" "least_sizes" Jx wR)
  (zX:L2.Dn K "ways_down" wU)
  (zY:Ln K "ways_down" "ways_down" Xz wU)
  (zZ:L2.Dn K "sizes_with" wV)
  (z6:Ln K "sizes_with" "sizes_with" XS wV)
  (z7:L2.Dn K "needed" wW)
  (z8:Ln K "needed" "needed" YCx wW)
  (z9:L2.Dn K "show_grammar" wX)
  (z_:Ln K "show_grammar" "show_grammar" Jg wX)
  (Qa:L2.Dn K "show_numbers" wY)
  (Qc:Ln K "show_numbers" "show_numbers" Jj wY)
  (Qd:L2.Dn K "read_words" wZ)
  (Qe:Ln K "read_words" "read_words" XU wZ)
  (Qf:An K bf "__init__" yc)
  (Qg:Ln K "__init__" "Desk.__init__" JK yc)
  (Qh:An K bf "add_rule" yd)
  (Qi:Ln K "add_rule" "Desk.add_rule" JL yd)
  (Qj:An K bf "drop_rule" ye)
  (Qk:Ln K "drop_rule" "Desk.drop_rule" Z7 ye)
  (Ql:An K bf "say" yf)
  (Qm:Ln K "say" "Desk.say" YAd yf)
  (Qn:L2.Dn K "_law_cell_at" yg)
  (Qo:Ln K "_law_cell_at" "_law_cell_at" Jk yg)
  (Qp:L2.Dn K "_law_mixed" yh)
  (Qq:Ln K "_law_mixed" "_law_mixed" XV yh)
  (Qs:L2.Dn K "_law_signs" yj)
  (Qt:Ln K "_law_signs" "_law_signs" ZQ yj)
  (Qu:L2.Dn K "_law_names" yl)
  (Qv:Ln K "_law_names" "_law_names" Z0 yl)
  (Qw:L2.Dn K "_law_worth" ym)
  (Qx:Ln K "_law_worth" "_law_worth" XW ym)
  (Qy:L2.Dn K "_law_parts" yo)
  (Qz:Ln K "_law_parts" "_law_parts" XX yo)
  (QB:L2.Dn K "_law_written" yp)
  (QC:Ln K "_law_written" "_law_written" Jl yp)
  (QD:L2.Dn K "_law_rule" yq)
  (QF:Ln K "_law_rule" "_law_rule" X1 yq)
  (QG:L2.Dn K "_law_ripe" yr)
  (QH:Ln K "_law_ripe" "_law_ripe" Ju yr)
  (QJ:L2.Dn K "_law_needed" yt)
  (QK:Ln K "_law_needed" "_law_needed" JD yt)
  (QL:L2.Dn K "_law_answered" yu)
  (QM:Ln K "_law_answered" "_law_answered" JN yu)
  (QQ:L2.Dn K "_law_looked" yw)
  (QR:Ln K "_law_looked" "_law_looked" J1 yw)
  (QT:PySem.W.nsIn K mainGlobals "law"=some (some (.ref vH)))
  (QV:K.lookup vH=some ⟨oc,od,.func (PySem.W.fnOf "law" "law" (JC YAz) (Zc YAz) (YG YAz) .none kV dc pm an cd ct),sl⟩)
  (QW:PySem.W.codeIn K cd "law"=true)
  (QX:PySem.W.keepIn K (.ref vH)=true)
  (iFIRST_CODE:PySem.W.nsIn K mainGlobals "FIRST_CODE"=some (some (.int 32 tFIRST_CODE)))
  (iLAST_CODE:PySem.W.nsIn K mainGlobals "LAST_CODE"=some (some (.int 126 tLAST_CODE)))
  (iPERCENT_CODE:PySem.W.nsIn K mainGlobals "PERCENT_CODE"=some (some (.int 37 tPERCENT_CODE)))
  (iMOST_LETTERS:PySem.W.nsIn K mainGlobals "MOST_LETTERS"=some (some (.int 8 tMOST_LETTERS)))
  (iMOST_PARTS:PySem.W.nsIn K mainGlobals "MOST_PARTS"=some (some (.int 6 tMOST_PARTS)))
  (iMOST_RULES:PySem.W.nsIn K mainGlobals "MOST_RULES"=some (some (.int 60 tMOST_RULES)))
  (iMOST_FIGURES:PySem.W.nsIn K mainGlobals "MOST_FIGURES"=some (some (.int 61 tMOST_FIGURES)))
  (zisinstance:Zn K "isinstance")
  (zint:Zn K "int")
  (zbool:Zn K "bool")
  (zord:Zn K "ord")
  (zstr:Zn K "str")
  (zlen:Zn K "len")
  (zall:Zn K "all")
  (ztuple:Zn K "tuple")
  (zlist:Zn K "list")
  (zenumerate:Zn K "enumerate")
  (zrange:Zn K "range")
  (zmin:Zn K "min")
  (xNoGrammar:PySem.W.excIn K dD [.type "ValueError",.type "Exception",.type "BaseException",.type "object"] "ValueError.__new__"=true)
  (xNoRule:PySem.W.excIn K iu [.type "ValueError",.type "Exception",.type "BaseException",.type "object"] "ValueError.__new__"=true)
  (pgDesk:PySem.W.plainGet K bf Str.empty=true)
  (rz:PySem.W.hasDictIn K bf=true)
  (poDesk:PySem.W.plainOver K bf=true)
  (saDesk:PySem.W.findIn K (.ref bf) "__setattr__"=some (some (.builtin "object.__setattr__")))
  (naDesk_rules:On K bf "rules")
  (mkDesk:PySem.W.makesIn K bf=true)
  (kcDesk:PySem.W.keepIn K (.ref bf)=true)
  (oFORMS:YAx l.prog w K jJ):
  ∃fd:FuncData,(∀(s:Shared) (v:Value),BindsTo s fd ⟨[v],[]⟩ [("_law_script",v)])/\∀base:Heap,K.In base->base.Ns mainGlobals mg->Yv l.prog w K mg base CX0 13 fa fd ["_law_script"] (YFF K):=by
 have e:=zE.symm.trans (PySem.W.mg_of X G QT);cases e;have m:=λ{x:Str}{v:Value} (h:PySem.W.nsIn K mainGlobals x=some (some v))=>PySem.W.mg_of X G h
 have n:=λ{x:Str}{f:Addr} (h:L2.Dn K x f)=>(PySem.W.mg_of X G h:mg x=some (.ref f))
 have z:=λ{x:Str} (h:Zn K x)=>PySem.W.mg_none_of X G h
 have T:Txt K mg ⟨bf,dD,iu,jJ,0⟩:=⟨z zisinstance,z zint,z zbool,z zord,z zstr,z zlen,z zall,z ztuple,z zlist,z zenumerate,z zrange,z zmin,⟨_,m iFIRST_CODE⟩,⟨_,m iLAST_CODE⟩,⟨_,m iPERCENT_CODE⟩,⟨_,m iMOST_LETTERS⟩,⟨_,m iMOST_PARTS⟩,⟨_,m iMOST_RULES⟩,⟨_,m iMOST_FIGURES⟩,m nDesk,m nNoGrammar,m nNoRule,m nFORMS,xNoGrammar,xNoRule,⟨pgDesk,rz,poDesk,saDesk⟩,naDesk_rules⟩;have F40:=YIG (st:=YAz) QV QW QX;obtain⟨_,F0⟩:=l0.ex;have dJ:=us l.prog w (n d0) F0 (λ_=>YFO F0 T) λ_ _ _ _ _ _=>bn 1 λ_=>rfl
 obtain⟨_,F1⟩:=l1.ex;have aW:=us l.prog w (n d1) F1 (λ_=>YAb F1 T) λ_ _ _ _ _ _=>bn 1 λ_=>rfl
 obtain⟨_,F2⟩:=l2.ex;have eN:=us l.prog w (n d2) F2 (λ_=>YGJ F2 T aW) λ_ _ _ _ _ _=>bn 1 λ_=>rfl
 obtain⟨_,F3⟩:=l3.ex;have bw:=us l.prog w (n d3) F3 (λ_=>YGL F3 T) λ_ _ _ _ _ _=>bn 1 λ_=>rfl
 obtain⟨_,F4⟩:=l4.ex;have eX:=us l.prog w (n d4) F4 (λ_=>YGN F4 T eN bw) λ_ _ _ _ _ _=>bn 1 λ_=>rfl
 obtain⟨_,F5⟩:=l5.ex;have dM:=us l.prog w (n d5) F5 (λ_=>YFQ F5 T dJ) λ_ _ _ _ _ _=>bn 1 λ_=>rfl
 obtain⟨_,F6⟩:=l6.ex;have cW:=us l.prog w (n d6) F6 (λ_=>YEc F6 T eX) λ_ _ _ _ _ _=>bn 1 λ_=>rfl
 obtain⟨_,F7⟩:=l7.ex;have bx:=us l.prog w (n d7) F7 (λ_=>YGP F7 T bw cW dM) λ_ _ _ _ _ _=>bn 1 λ_=>rfl
 obtain⟨_,F8⟩:=l8.ex;have cu:=us l.prog w (n d8) F8 (λ_=>YDN F8 T bx) λ_ _ _ _ _ _=>bn 1 λ_=>rfl
 obtain⟨_,F9⟩:=l9.ex;have bz:=us l.prog w (n d9) F9 (λ_=>YGR F9 T cu) λ_ _ _ _ _ _=>bn 1 λ_=>rfl
 obtain⟨_,F10⟩:=zG.ex;have aO:=us l.prog w (n zF) F10 (λ_=>YDQ F10 T) λ_ _ _ _ _ _=>bn 1 λ_=>rfl
 obtain⟨_,F11⟩:=zJ.ex;have cX:=us l.prog w (n zH) F11 (λ_=>YEe F11 T) λ_ _ _ _ _ _=>bn 1 λ_=>rfl
 obtain⟨_,F12⟩:=zL.ex;have dg:=us l.prog w (n zK) F12 (λ_=>YEh F12 T cX) λ_ _ _ _ _ _=>bn 1 λ_=>rfl
 obtain⟨_,F13⟩:=zN.ex;have cY:=us l.prog w (n zM) F13 (λ_=>YEg F13 T) λ_ _ _ _ _ _=>bn 1 λ_=>rfl
 obtain⟨_,F14⟩:=zP.ex;have dh:=us l.prog w (n zO) F14 (λ_=>YEi F14 T bx aO cY) λ_ _ _ _ _ _=>bn 1 λ_=>rfl
 obtain⟨_,F15⟩:=zR.ex;have bD:=us l.prog w (n zQ) F15 (λ_=>YBu F15 T) λ_ _ _ _ _ _=>bn 3 λ_ _ _=>rfl
 obtain⟨_,F16⟩:=zU.ex;have aa:=us l.prog w (n zT) F16 (λ_=>YBv F16 T bD) λ_ _ _ _ _ _=>bn 3 λ_ _ _=>rfl
 obtain⟨_,F17⟩:=zW.ex;have bQ:=us l.prog w (n zV) F17 (λ_=>YCz F17 T aa) λ_ _ _ _ _ _=>bn 2 λ_ _=>rfl
 obtain⟨_,F18⟩:=zY.ex;have c7:=us l.prog w (n zX) F18 (λ_=>YEj F18 T aa) λ_ _ _ _ _ _=>bn 2 λ_ _=>rfl
 obtain⟨_,F19⟩:=z6.ex;have cD:=us l.prog w (n zZ) F19 (λ_=>YDR F19 T c7 aa) λ_ _ _ _ _ _=>bn 2 λ_ _=>rfl
 obtain⟨_,F20⟩:=z8.ex;have gU:=us l.prog w (n z7) F20 (λ_=>YHn F20 T bz cD bQ) λ_ _ _ _ _ _=>bn 1 λ_=>rfl
 obtain⟨_,F21⟩:=z_.ex;have bF:=us l.prog w (n z9) F21 (λ_=>YBx F21 T dg bz) λ_ _ _ _ _ _=>bn 1 λ_=>rfl
 obtain⟨_,F22⟩:=Qc.ex;have bG:=us l.prog w (n Qa) F22 (λ_=>YBz F22 T) λ_ _ _ _ _ _=>bn 1 λ_=>rfl
 obtain⟨_,F23⟩:=Qe.ex;have cG:=us l.prog w (n Qd) F23 (λ_=>YDT F23 T oFORMS aO) λ_ _ _ _ _ _=>bn 1 λ_=>rfl
 obtain⟨_,F24⟩:=Qg.ex;have bj:=usI l.prog w mkDesk kcDesk Qf F24 (λ_=>YBW F24 T) λ_ _ _ _ _ _=>bn 1 λ_=>rfl
 obtain⟨_,F25⟩:=Qi.ex;have bh:=usM l.prog w Qh F25 (λ_=>YBX F25 T dh) λ_ _ _ _ _ _=>bn 2 λ_ _=>rfl
 obtain⟨_,F26⟩:=Qk.ex;have bc:=usM l.prog w Qj F26 (λ_=>YAw F26 T) λ_ _ _ _ _ _=>bn 2 λ_ _=>rfl
 obtain⟨_,F27⟩:=Qm.ex;have dN:=usM l.prog w Ql F27 (λ_=>YFf F27 T cG bF bG gU bh bc) λ_ _ _ _ _ _=>bn 2 λ_ _=>rfl
 obtain⟨_,F28⟩:=Qo.ex;have az:=us l.prog w (n Qn) F28 (λ_=>YB1 F28 T) λ_ _ _ _ _ _=>bn 2 λ_ _=>rfl
 obtain⟨_,F29⟩:=Qq.ex;have aP:=us l.prog w (n Qp) F29 (λ_=>YDU F29 T az) λ_ _ _ _ _ _=>bn 2 λ_ _=>rfl
 obtain⟨_,F30⟩:=Qt.ex;have cL:=us l.prog w (n Qs) F30 (λ_=>YDV F30 T) λ_ _ _ _ _ _=>bn 1 λ_=>rfl
 obtain⟨_,F31⟩:=Qv.ex;have cH:=us l.prog w (n Qu) F31 (λ_=>YDW F31 T) λ_ _ _ _ _ _=>bn 1 λ_=>rfl
 obtain⟨_,F32⟩:=Qx.ex;have cJ:=us l.prog w (n Qw) F32 (λ_=>YDY F32 T) λ_ _ _ _ _ _=>bn 1 λ_=>rfl
 obtain⟨_,F33⟩:=Qz.ex;have cI:=us l.prog w (n Qy) F33 (λ_=>YDZ F33 T) λ_ _ _ _ _ _=>bn 3 λ_ _ _=>rfl
 obtain⟨_,F34⟩:=QC.ex;have aA:=us l.prog w (n QB) F34 (λ_=>YB2 F34 T) λ_ _ _ _ _ _=>bn 1 λ_=>rfl
 obtain⟨_,F35⟩:=QF.ex;have dC:=us l.prog w (n QD) F35 (λ_=>YEn F35 T cH cI aP cJ cL az) λ_ _ _ _ _ _=>bn 2 λ_ _=>rfl
 obtain⟨_,F36⟩:=QH.ex;have dj:=us l.prog w (n QG) F36 (λ_=>YEq F36 T) λ_ _ _ _ _ _=>bn 2 λ_ _=>rfl
 obtain⟨_,F37⟩:=QK.ex;have bR:=us l.prog w (n QJ) F37 (λ_=>YC9 F37 T dj) λ_ _ _ _ _ _=>bn 1 λ_=>rfl
 obtain⟨_,F38⟩:=QM.ex;have au:=us l.prog w (n QL) F38 (λ_=>YBc F38 T dN) λ_ _ _ _ _ _=>bn 3 λ_ _ _=>rfl
 obtain⟨_,F39⟩:=QR.ex;have bT:=us l.prog w (n QQ) F39 (λ_=>YDC F39 T au aA bR) λ_ _ _ _ _ _=>bn 3 λ_ _ _=>rfl
 exact⟨PySem.W.fnOf "law" "law" (JC YAz) (Zc YAz) (YG YAz) .none kV dc pm an cd ct,λs v=>.of_eq rfl,λbase _ _=>ok_law F40 T aP bT dC au aA bj⟩
theorem walk {l:PySem.W.OpenLaw}{q:Program}{loose:List Str}{XP:(Str->Option Value)->Heap->Prop}{YP:World->Heap->Prop}{d:DefRec}{K:Params->W.Frag} (hn:l.most=some 63) (hdf:d.params.defaults=[])
  (hY:∀(w:World) (h:Heap),YP w h->(K w.params).In h)
  (F:∀(w:World) (mg:Str->Option Value) (fa:Addr) (h:Heap),(K w.params).In h->h.Ns mainGlobals mg->mg d.name=some (.ref fa)->
   ∃fd:FuncData,(∀(s:Shared) (u:Value),BindsTo s fd ⟨[u],[]⟩ [("_law_script",u)])/\∀base:Heap,(K w.params).In base->base.Ns mainGlobals mg->Yv l.prog w (K w.params) mg base CX0 13 fa fd ["_law_script"] (YFF (K w.params))):
  PySem.W.WalkO q loose XP YP l.row.toRowW d [] (λf vs=>PySem.call f vs):=
 L2.walk_of (n:=63) (k:=13) (x:="_law_script") (CX:=λ_=>CX0) (sp:=λw=>YFF (K w.params)) hn (by decide) hdf ⟨U,by decide,by decide⟩ hY F (λ_ _ a ns hl hO hS=>YHW hl hO hS) λ_ _ _ _ _ z=>z
end FR
open PySem PySem.W PyProof.Rows
set_option maxRecDepth 100000 in
set_option maxHeartbeats 0 in
theorem PySem.Challenge.cw_forestread_k83_desk_deeds_holds : PySem.Challenge.rw_forestread_k83_desk_deeds.Holds := by
 refine hd83 ?_
 k_fill
 refine FR.walk (l:=PySem.Challenge.rw_forestread_k83_desk_deeds) rfl rfl (λw h Y=>PySem.W.kIn_of Y) ?F
 case F=>
  intro w mg fa h KX G sY;refine' FR.all_mk KX G sY ..
  any_goals first |k_is |(delta L2.Dn;k_is) |(delta L2.Zn;k_is) |(delta L2.On;k_is) |(refine' L2.An.mk ?_ ?_;any_goals k_is) |(refine' L2.Ln.mk ?_ ?_ ?_;any_goals k_is) |k_exc |kts_exm |kit_is |(refine' FR.YAx.of ?_ ?_ ?_ ?_ ?_ ?_;any_goals first |k_is |decide)
